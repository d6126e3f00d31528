
/-
  What the library's variables hold, kept behind a call that leaves old memory; strings.ReplaceAll at short texts; the program's Show, guess, Read at texts between quotes.
-/
import Derived.Test.YtblpflobpffjnaaDoorVcmp
import Derived.Test.YtblpflobpffjnaaDoorMay
import Derived.Test.YtblpflobpffjnaaDoorAg
import Derived.Test.YtblpflobpffjnaaDoorShelf
import Derived.Test.YtblpflobpffjnaaDoorVb
import Derived.Lib.ReplaceLaws
import Derived.WalkSpells
import Derived.WalkLawsBesides
namespace Go.Proofs.YtblpflobpffjnaaDoor
open Go.RowKit

/-- The library's own number (internal/bytealg.MaxLen) stands in its cell. -/
def MaxC (w : World) : Prop := ∃ m, w.cell? ⟨0, 0, none⟩ = some (.int .i64 m)
theorem MaxC.lt {w : World} (h : MaxC w) : 0 < w.heap.size := by obtain ⟨m, hm⟩ := h; exact cell_block hm
theorem MaxC.below {w w' : World} {B : Nat} (h : MaxC w) (hb : Below B w w') (hB : 0 < B) : MaxC w' := by
  obtain ⟨m, hm⟩ := h
  exact ⟨m, (hb.cell (p := ⟨0, 0, none⟩) hB).trans hm⟩
theorem MaxC.below0 {w w' : World} (h : MaxC w) (hb : Below w.heap.size w w') : MaxC w' := h.below hb h.lt

def repA (s old new : List UInt8) : ByteArray := ⟨(Lib.replaceAll s old new).toArray⟩
theorem repl_any (s old new : ByteArray) (w : World) (hm : MaxC w) (h1 : 1 ≤ old.size) (hs : s.size ≤ 10000) (hn : new.size ≤ 2) :
    Calls Tryd.prog 45 #[.string s, .string old, .string new] w (RetB w (.string (repA s.data.toList old.data.toList new.data.toList))) := by
  obtain ⟨m, hm⟩ := hm
  refine (Tryd.strings_ReplaceAll s old new m w (by omega) hm h1 ?_).mono fun e w' ⟨h1, h2⟩ => ⟨h1, h2⟩
  have := Lib.countB_le old h1 s.size s (Nat.le_refl _)
  have : Lib.countB s old * new.size ≤ 10000 * 2 := Nat.mul_le_mul (by omega) hn
  omega

def qS : ByteArray := ⟨#[39]⟩
def qqS : ByteArray := ⟨#[39, 39]⟩
/-- A text with each quote twice; each two quotes once. -/
def dbl (s : List UInt8) : ByteArray := ⟨(dblL s).toArray⟩
def und (s : List UInt8) : ByteArray := ⟨(undL s).toArray⟩
theorem dbl_list (s : List UInt8) : (dbl s).data.toList = dblL s := by simp [dbl]
theorem und_list (s : List UInt8) : (und s).data.toList = undL s := by simp [und]
theorem len_size (s : ByteArray) : s.data.toList.length = s.size := Array.length_toList
theorem dbl_size (s : ByteArray) : (dbl s.data.toList).size ≤ 2 * s.size := by
  have := dblL_len s.data.toList
  rw [← len_size, dbl_list, ← len_size]; exact this
theorem und_size (s : ByteArray) : (und s.data.toList).size ≤ s.size := by
  have := undL_len s.data.toList
  rw [← len_size, und_list, ← len_size]; exact this
theorem dbl_any (s : ByteArray) (w : World) (hm : MaxC w) (hs : s.size ≤ 10000) :
    Calls Tryd.prog 45 #[.string s, .string ⟨#[39]⟩, .string ⟨#[39, 39]⟩] w (RetB w (.string (dbl s.data.toList))) := by
  have h := repl_any s qS qqS w hm (by decide) hs (by decide)
  have e : repA s.data.toList qS.data.toList qqS.data.toList = dbl s.data.toList := by unfold repA dbl; rw [← dblL_eq]; rfl
  rw [e] at h
  exact h
theorem und_any (s : ByteArray) (w : World) (hm : MaxC w) (hs : s.size ≤ 10000) :
    Calls Tryd.prog 45 #[.string s, .string ⟨#[39, 39]⟩, .string ⟨#[39]⟩] w (RetB w (.string (und s.data.toList))) := by
  have h := repl_any s qqS qS w hm (by decide) hs (by decide)
  have e : repA s.data.toList qqS.data.toList qS.data.toList = und s.data.toList := by unfold repA und; rw [← undL_eq]; rfl
  rw [e] at h
  exact h

set_option maxHeartbeats 1000000 in
theorem guess_q (s : ByteArray) (w : World) (hm : MaxC w) (hs : s.size ≤ 10000) (h1 : 1 < s.size) (h0 : (s[0].toNat : Int) = 39) (hT : (s.toList == [84, 82, 85, 69]) = false) (hF : (s.toList == [70, 65, 76, 83, 69]) = false) :
    Calls Tryd.prog 47 #[.string s] w (RetB w (.agg #[.int .u8 3, .int .i64 0, .string (und ((s.extract 1 (s.size - 1)).data.toList))])) := by
  have Hc := fun W (h : MaxC W) => und_any (s.extract 1 (s.size - 1)) W h (by rw [ByteArray.size_extract]; omega)
  generalize und ((s.extract 1 (s.size - 1)).data.toList) = u at *
  have HC := Lib.hid Hc; clear Hc
  have hm1 := fun o => hm.below0 ((Below.refl _ w).alloc (Nat.le_refl _) o)
  have HM := Lib.hid hm1; clear hm1
  have hlt := hm.lt
  clear hm
  have h1' : (1 : Int) < (s.size : Int) := by omega
  have h2' : (1 : Int) ≤ (s.size : Int) - 1 := by omega
  have h0' : ((s[0].toNat : Int) == 39) = true := by simpa using h0
  clear h0
  go_enter Tryd.func47, Tryd.ntmps47
  go_wp2_with fail
  refine (HC.out _ (HM.out _)).mono ?_
  rintro e w1 ⟨rfl, hb1⟩
  have hz1 : w.heap.size + 1 ≤ w1.heap.size := by simpa using hb1.size
  have c0 := hb1.cell (p := ⟨w.heap.size, 0, none⟩) (by simp)
  have c1 := hb1.cell (p := ⟨w.heap.size, 1, none⟩) (by simp)
  have c2 := hb1.cell (p := ⟨w.heap.size, 2, none⟩) (by simp)
  have f0 := hb1.frozen (p := ⟨w.heap.size, 0, none⟩) (by simp)
  have f1 := hb1.frozen (p := ⟨w.heap.size, 1, none⟩) (by simp)
  have f2 := hb1.frozen (p := ⟨w.heap.size, 2, none⟩) (by simp)
  go_wp2_with fail
  exact bodyPost_ret (v := .agg #[.int .u8 3, .int .i64 0, .string u]) (by simp [results, Tryd.results47, go_sem, c0, c1, c2]) rfl ⟨rfl, by
    repeat (first | exact bto0 (ball (Below.refl _ _) _) hb1 | refine Below.setCell ?_ (by simp) _)⟩

/-- How a value is shown, but for a number. -/
def showT (v : Vl) : ByteArray :=
  if v.k = 2 then (if v.i = 0 then ⟨#[70, 65, 76, 83, 69]⟩ else ⟨#[84, 82, 85, 69]⟩) else if v.k = 3 then qS ++ dbl v.s.data.toList ++ qS else ⟨#[78, 85, 76, 76]⟩
set_option maxHeartbeats 1000000 in
theorem show_x (v : Vl) (w : World) (hm : MaxC w) (hs : v.s.size ≤ 10000) (hk : v.k ≠ 1) :
    Calls Tryd.prog 27 #[v.agg] w (RetB w (.string (showT v))) := by
  have Hc := fun W (h : MaxC W) => dbl_any v.s W h hs
  have hz : (dbl v.s.data.toList).size ≤ 30000 := by have := dbl_size v.s; omega
  unfold showT
  generalize dbl v.s.data.toList = u at *
  have HC := Lib.hid Hc; clear Hc
  have hm1 := fun o => hm.below0 ((Below.refl _ w).alloc (Nat.le_refl _) o)
  have HM := Lib.hid hm1; clear hm1
  have hlt := hm.lt
  clear hm
  obtain ⟨k, i, s⟩ := v
  unfold Vl.agg
  simp only at *
  have e1 : (k == 1) = false := by simpa using hk
  by_cases h2 : k = 2
  · subst h2
    by_cases hi : i = 0
    · subst hi
      go_enter Tryd.func27, Tryd.ntmps27
      go_wp2
      go_ret
      exact ⟨rfl, ball (Below.refl _ _) _⟩
    · have hi' : (i == 0) = false := by simpa using hi
      rw [if_pos rfl, if_neg hi]
      go_enter Tryd.func27, Tryd.ntmps27
      go_wp2
      go_ret
      exact ⟨rfl, ball (Below.refl _ _) _⟩
  · have e2 : (k == 2) = false := by simpa using h2
    rw [if_neg h2]
    by_cases h3 : k = 3
    · subst h3
      rw [if_pos rfl]
      go_enter Tryd.func27, Tryd.ntmps27
      go_wp2_with fail
      refine (HC.out _ (HM.out _)).mono ?_
      rintro e w1 ⟨rfl, hb1⟩
      go_wp2
      go_ret
      exact ⟨rfl, bto0 (ball (Below.refl _ _) _) hb1⟩
    · have e3 : (k == 3) = false := by simpa using h3
      rw [if_neg h3]
      go_enter Tryd.func27, Tryd.ntmps27
      go_wp2
      go_ret
      exact ⟨rfl, ball (Below.refl _ _) _⟩

/-- A text of the program's that begins with a quote, and is neither TRUE nor FALSE. -/
def QT (s : ByteArray) : Prop := s.size ≤ 10000 ∧ ∃ h : 1 < s.size, (s[0].toNat : Int) = 39
def midQ (s : ByteArray) : List UInt8 := (s.extract 1 (s.size - 1)).data.toList
def vQ (s : ByteArray) : Vl := ⟨3, 0, und (midQ s)⟩
set_option maxHeartbeats 2000000 in
theorem read_q (s : ByteArray) (w : World) (hm : MaxC w) (hs : s.size ≤ 10000) (h1 : 1 < s.size) (h0 : (s[0].toNat : Int) = 39) (hT : (s.toList == [84, 82, 85, 69]) = false) (hF : (s.toList == [70, 65, 76, 83, 69]) = false) (r : Bool)
    (hr : (mayV (vQ s) && ((showT (vQ s)).toList == s.toList)) = r) :
    Calls Tryd.prog 29 #[.string s] w (RetB w (.tuple #[if r then (vQ s).agg else .agg #[.int .u8 0, .int .i64 0, .string ⟨#[]⟩], .bool r])) := by
  have Hg := fun W (h : MaxC W) => guess_q s W h hs h1 h0 hT hF
  have hu : (und (midQ s)).size ≤ 10000 := by have := und_size (s.extract 1 (s.size - 1)); rw [ByteArray.size_extract] at this; show (und _).size ≤ _; unfold midQ; omega
  have hok : (vQ s).ok := ⟨⟨by show (0 : Int) ≤ 3; decide, by show (3 : Int) ≤ 255; decide⟩, ⟨by show (-9223372036854775808 : Int) ≤ 0; decide, by show (0 : Int) ≤ 9223372036854775807; decide⟩, by show (und (midQ s)).size ≤ maxLen; unfold maxLen; omega⟩
  have Hy := fun W => may_any (vQ s) hok W
  have Hs := fun W (h : MaxC W) => show_x (vQ s) W h hu (by show (3 : Int) ≠ 1; decide)
  have HM := fun (W : World) (hb : Below w.heap.size w W) => hm.below0 hb
  have hlt := hm.lt
  unfold vQ Vl.agg at *
  simp only at *
  have eu : und (s.extract 1 (s.size - 1)).data.toList = und (midQ s) := rfl
  rw [eu] at Hg
  generalize showT ⟨3, 0, und (midQ s)⟩ = t at *
  generalize mayV ⟨3, 0, und (midQ s)⟩ = y at *
  generalize und (midQ s) = u at *
  have HG := Lib.hid Hg; clear Hg
  have HY := Lib.hid Hy; clear Hy
  have HS := Lib.hid Hs; clear Hs
  have HMx := Lib.hid HM; clear HM
  have HR := Lib.hid hr; clear hr
  have hm0 := Lib.hid hm
  clear eu hok hu hm h0 hT hF
  cases r
  all_goals
    go_enter Tryd.func29, Tryd.ntmps29
    go_wp2_with fail
    refine (HG.out _ (HMx.out _ (ball (Below.refl _ _) _))).mono ?_
    rintro e w1 ⟨rfl, hb1⟩
    have hz1 : w.heap.size < w1.heap.size := by have := hb1.size; simp at this; omega
    have Q1 := Lib.hid ((At3.new w 0 0 ⟨#[]⟩ 55).below hb1 (by simp))
    obtain ⟨c0, c1, c2, f0, f1, f2⟩ := Q1.out
    have HM0 := Lib.hid (HMx.out w1 (bto0 (ball (Below.refl _ _) _) hb1))
    cases y
    all_goals
      go_wp2_with fail
      refine (HY.out _).mono ?_
      rintro e w2 ⟨rfl, hb2⟩
      clear c0 c1 c2 f0 f1 f2
      have hz2 : w1.heap.size < w2.heap.size := by have := hb2.size; simp at this; omega
      have Q2 := Lib.hid ((Q1.out.alloc _).below hb2 (by simp; omega))
      obtain ⟨c0, c1, c2, f0, f1, f2⟩ := Q2.out
      obtain ⟨d0, d1, d2, -, -, -⟩ := (At3.new w1 3 0 u 55).below hb2 (by simp)
      have HM2 := Lib.hid (HM0.out.below0 (ball (Below.refl _ _) (.cells #[.int .u8 3, .int .i64 0, .string u] 55)))
      have HM3 := Lib.hid (HM2.out.below0 hb2)
      go_wp2_with (go_at_call 27; refine (HS.out _ HM3.out).mono ?_; rintro e w3 ⟨rfl, hb3⟩; clear c0 c1 c2 f0 f1 f2 d0 d1 d2; obtain ⟨c0, c1, c2, f0, f1, f2⟩ := Q2.out.below0 hb3; obtain ⟨d0, d1, d2, -, -, -⟩ := ((At3.new w1 3 0 u 55).below hb2 (by simp)).below0 hb3)
      all_goals first
        | (exfalso; have h := HR.out; simp_all; done)
        | (refine bodyPost_ret (v := .tuple #[.agg #[.int .u8 0, .int .i64 0, .string ⟨#[]⟩], .bool false]) (by simp [results, Tryd.results29, go_sem, c0, c1, c2]) rfl ⟨rfl, ?_⟩)
        | (refine bodyPost_ret (v := .tuple #[.agg #[.int .u8 3, .int .i64 0, .string u], .bool true]) (by simp [results, Tryd.results29, go_sem, c0, c1, c2]) rfl ⟨rfl, ?_⟩)
      all_goals
        repeat (first | exact bto0 (bto0 (ball (bto0 (ball (Below.refl _ _) _) hb1) _) hb2) hb3 | exact bto0 (ball (bto0 (ball (Below.refl _ _) _) hb1) _) hb2 | refine Below.setCell ?_ (by simp) _)
end Go.Proofs.YtblpflobpffjnaaDoor
