/-
  The reference's reader: take, a number, a text.
-/
import Derived.Test.YtflolnilagogpaaJa
import Derived.Test.YtflolnilagogpaaJv
set_option linter.unusedSimpArgs false
set_option linter.unusedVariables false
namespace Go.Proofs.Ytflolnilagogpaa
open Go.RowKit

/-- The reference's reader: what is left, and whether something wasn't there. -/
def rdv (r : List UInt8) (sh : Bool) : Value := .agg #[.string (str r), .bool sh]
theorem take_end {W : World} {R : Nat} {tm : Array Value} {Q : Ending → World → Prop} {v : Value} {r : List UInt8} {sh : Bool} (hR : Blk W R 70 #[.string (str r), .bool sh])
    (h4 : tm[4]? = some v) (h5 : tm[5]? = some (.pointer (some ⟨R, 0, none⟩))) (h : Q (.returned (.tuple #[v, rdv r sh])) W) :
    bodyPost Try.prog Try.f52 Q Exit.ret { tmps := tm, defers := [] } W := by
  have q0 : W.cell? ⟨R, 0, none⟩ = _ := hR.cell 0
  have q1 : W.cell? ⟨R, 1, none⟩ = _ := hR.cell 1
  exact bodyPost_ret (v := .tuple #[v, rdv r sh]) (by simp [results, Try.results52, go_sem, h4, h5, q0, q1, rdv]) rfl h
theorem num_end {W : World} {R : Nat} {tm : Array Value} {Q : Ending → World → Prop} {v : Value} {r : List UInt8} {sh : Bool} (hR : Blk W R 70 #[.string (str r), .bool sh])
    (h4 : tm[4]? = some v) (h5 : tm[5]? = some (.pointer (some ⟨R, 0, none⟩))) (h : Q (.returned (.tuple #[v, rdv r sh])) W) :
    bodyPost Try.prog Try.f35 Q Exit.ret { tmps := tm, defers := [] } W := by
  have q0 : W.cell? ⟨R, 0, none⟩ = _ := hR.cell 0
  have q1 : W.cell? ⟨R, 1, none⟩ = _ := hR.cell 1
  exact bodyPost_ret (v := .tuple #[v, rdv r sh]) (by simp [results, Try.results35, go_sem, h4, h5, q0, q1, rdv]) rfl h
theorem text_end {W : World} {R : Nat} {tm : Array Value} {Q : Ending → World → Prop} {v : Value} {r : List UInt8} {sh : Bool} (hR : Blk W R 70 #[.string (str r), .bool sh])
    (h4 : tm[2]? = some v) (h5 : tm[3]? = some (.pointer (some ⟨R, 0, none⟩))) (h : Q (.returned (.tuple #[v, rdv r sh])) W) :
    bodyPost Try.prog Try.f54 Q Exit.ret { tmps := tm, defers := [] } W := by
  have q0 : W.cell? ⟨R, 0, none⟩ = _ := hR.cell 0
  have q1 : W.cell? ⟨R, 1, none⟩ = _ := hR.cell 1
  exact bodyPost_ret (v := .tuple #[v, rdv r sh]) (by simp [results, Try.results54, go_sem, h4, h5, q0, q1, rdv]) rfl h
theorem tk_nil (k : Nat) : tk [] k = List.replicate k 0 ∧ dr [] k = [] := by
  unfold tk dr
  cases k with
  | zero => simp
  | succ k => simp
set_option maxHeartbeats 2000000 in
theorem stake_any (r : List UInt8) (sh : Bool) (k : Nat) (w : World) (hsh : sh = true → r = []) (hk : k ≤ 100000) (hr : r.length ≤ maxLen) :
    Calls Try.prog 52 #[.agg #[.string (str r), .bool sh], .int .i64 k] w (RetB w (.tuple #[.string (str (tk r k)), rdv (dr r k) (sh || decide (r.length < k))])) := by
  have k0 : (0 : Int) ≤ (k : Int) := by omega
  have hz := str_size r
  by_cases hs : sh = true ∨ r.length < k
  · obtain ⟨i0, hi0, hz0, hs0, hy0⟩ := int_info8 Try.infoB
    have mk0 : ∀ W, (Instr.makeSlice 28 (.int .i64 (k : Int)) (.int .i64 (k : Int))).run Try.prog W = .ok (.slice (some ⟨W.heap.size, 0, none⟩) k k) (W.alloc (.cells (bV (List.replicate k 0)) 5)) := by
      intro W
      have h := run_make (P := Try.prog) W 28 5 i0 (.int .u8 0) Try.underlying28 hi0 hz0 .i64 .i64 k k (by omega) (by omega) (by rw [hy0]; omega) (by omega)
      rw [hs0] at h
      rw [← zeros_cells k]
      simp only [Int.toNat_natCast, Nat.mul_one] at h
      exact h
    clear hi0 hz0 hs0 hy0
    have htk : tk r k = List.replicate k 0 ∧ dr r k = [] := by
      rcases hs with h | h
      · rw [hsh h]; exact tk_nil k
      · unfold tk dr; rw [if_pos h, if_pos h]; exact ⟨rfl, rfl⟩
    have hb : (sh || decide (r.length < k)) = true := by
      rcases hs with h | h
      · rw [h]; rfl
      · rw [decide_eq_true h, Bool.or_true]
    have hRr : ∀ (W : World) (g : Nat), g = W.heap.size → (convert 28 9 (.slice (some ⟨g, 0, none⟩) k k)).run Try.prog (W.alloc (.cells (bV (List.replicate k 0)) 5)) = .ok (.string (str (List.replicate k 0))) (W.alloc (.cells (bV (List.replicate k 0)) 5)) := fun W g hg => by
      subst hg
      exact conv_reads (P := Try.prog) (reads_new W (bV (List.replicate k 0)) 5 (by rw [bV_toList]) (by rw [bL_len]; simp)) 28 5 9 Try.underlying28 Try.underlying5 Try.underlying9 k
    have cv := hRr ((w.alloc (.cells #[.string (str r), .bool sh] 70)).alloc (.cells #[.string ⟨#[]⟩, .bool false] 70)) (w.heap.size + 1 + 1) (by simp)
    rw [htk.1, htk.2, hb]
    have hsI : sh = false → ((str r).size : Int) < (k : Int) := fun h => by
      rcases hs with h' | h'
      · rw [h] at h'; cases h'
      · omega
    clear hRr htk hb hs hsh
    cases sh
    all_goals
      first | have hsJ := hsI rfl | skip
      clear hsI
      go_enter Try.func52, Try.ntmps52
      go_wp2
      exact take_end (R := w.heap.size + 1) (r := []) (sh := true) (by rw [show str [] = ⟨#[]⟩ from rfl]; with_reducible repeat (first | exact Blk.newAt (by simp) | refine Blk.alloc ?_ _)) (by simp) (by simp) ⟨rfl, (by with_reducible repeat (first | exact Below.refl _ _ | refine ball ?_ _))⟩
  · have hs0 : sh = false := by cases sh <;> simp_all
    have hkl : k ≤ r.length := by omega
    subst hs0
    have htk := tk_take hkl
    have hb : (false || decide (r.length < k)) = false := by rw [Bool.false_or]; exact decide_eq_false (by omega)
    have c1 := cut_hi (P := Try.prog) Try.underlying9 r (r.take k) .i64 (k : Int) k0 (by omega) (by rw [Int.toNat_natCast])
    have c2 := cut_lo (P := Try.prog) Try.underlying9 r (r.drop k) .i64 (k : Int) k0 (by omega) (by rw [Int.toNat_natCast])
    have hsI : (k : Int) ≤ ((str r).size : Int) := by omega
    have hsI2 : (k : Int) ≤ (r.length : Int) := by omega
    have hsN : ¬ r.length < k := by omega
    rw [htk.1, htk.2, hb]
    clear htk hb hs hsh
    go_enter Try.func52, Try.ntmps52
    go_wp2_with fail
    go_region
    go_wp2
    exact take_end (R := w.heap.size + 1) (r := r.drop k) (sh := false) (by with_reducible repeat (first | exact Blk.newAt (by simp) | refine Blk.drew ?_ | refine Blk.alloc ?_ _)) (by simp) (by simp) ⟨rfl, (by with_reducible repeat (first | exact Below.refl _ _ | refine Below.drew ?_ | refine ball ?_ _))⟩
theorem beVal7 {l : List UInt8} {k : Nat} (h : l.length = k) (hk : k ≤ 4) : ((beVal l : Nat) : Int) ≤ 4294967295 := by
  have := beVal_lt_of (l := l) (n := 4) (by omega)
  omega
set_option maxHeartbeats 2000000 in
theorem snum_any (r : List UInt8) (sh : Bool) (k : Nat) (w : World) (hsh : sh = true → r = []) (hk : k ≤ 4) (hr : r.length ≤ maxLen) :
    Calls Try.prog 35 #[.agg #[.string (str r), .bool sh], .int .i64 k] w (RetB w (.tuple #[.int .i64 (beVal (tk r k)), rdv (dr r k) (sh || decide (r.length < k))])) := by
  have ST := Lib.hid fun W => stake_any r sh k W hsh (by omega) hr
  have VA := Lib.hid fun W => dval_any (tk r k) (by rw [tk_len]; omega) W
  have hv := beVal7 (tk_len r k) hk
  have hv0 : (0 : Int) ≤ (beVal (tk r k) : Nat) := by omega
  have hwr : IntKind.i64.wrap ((beVal (tk r k) : Nat) : Int) = ((beVal (tk r k) : Nat) : Int) := by rw [IntKind.wrap_i64]; omega
  obtain ⟨U, hU⟩ : ∃ U, beVal (tk r k) = U := ⟨_, rfl⟩
  obtain ⟨t, ht⟩ : ∃ t, tk r k = t := ⟨_, rfl⟩
  obtain ⟨q, hq⟩ : ∃ q, dr r k = q := ⟨_, rfl⟩
  obtain ⟨b, hb⟩ : ∃ b, (sh || decide (r.length < k)) = b := ⟨_, rfl⟩
  rw [hU] at VA hv hv0 hwr ⊢
  rw [ht] at VA ST
  rw [hq, hb] at ST ⊢
  clear hU ht hq hb hsh hk hr
  go_enter Try.func35, Try.ntmps35
  go_wp2_with fail
  refine (ST.out _).mono ?_
  rintro e w1 ⟨rfl, hb1⟩
  unfold rdv
  have B5 : Blk w1 (w.heap.size + 1) 70 #[.string ⟨#[]⟩, .bool false] := (Blk.newAt (by simp)).below hb1 (by simp)
  have hb0 : Below w.heap.size w w1 := bto0 (ball (ball (Below.refl _ _) _) _) hb1
  go_wp2_with fail
  have B7 : Blk (w1.alloc (.cells #[.string (str q), .bool b] 70)) w1.heap.size 70 #[.string (str q), .bool b] := Blk.newAt rfl
  have B6 := B5.alloc (.cells #[.string (str q), .bool b] 70)
  have hb2 := ball hb0 (.cells #[.string (str q), .bool b] 70)
  obtain ⟨W0, hW0⟩ : ∃ W0, w1.alloc (.cells #[.string (str q), .bool b] 70) = W0 := ⟨_, rfl⟩
  rw [hW0] at B7 B6 hb2 ⊢
  have c70 : W0.cell? ⟨w1.heap.size, 0, none⟩ = some (.string (str q)) := B7.cell 0
  have c71 : W0.cell? ⟨w1.heap.size, 1, none⟩ = some (.bool b) := B7.cell 1
  have c60 : W0.cell? ⟨w.heap.size + 1, 0, none⟩ = some (.string ⟨#[]⟩) := B6.cell 0
  have c61 : W0.cell? ⟨w.heap.size + 1, 1, none⟩ = some (.bool false) := B6.cell 1
  have f60 := B6.frozen 0
  have f61 := B6.frozen 1
  have HH := Lib.hid (And.intro B6 hb2)
  clear hW0 B7 B6 B5 hb2 hb0 hb1 ST
  go_region_with (go_at_call 53; (with_reducible refine (VA.out _).mono ?_); rintro e w' ⟨rfl, rfl⟩)
  all_goals
    go_wp2
    exact num_end (R := w.heap.size + 1) (v := .int .i64 (U : Int)) (r := q) (sh := b) ((HH.out.1.set_ 0 _).set_ 1 _).drew (by simp [hwr]) (by simp) ⟨rfl, ((HH.out.2.setCell (by simp) _).setCell (by simp) _).drew⟩
/-- A text: as many bytes as the first one says. -/
theorem stext_any (r : List UInt8) (sh : Bool) (b : UInt8) (hb : tk r 1 = [b]) (w : World) (hsh : sh = true → r = []) (hr : r.length ≤ maxLen) :
    Calls Try.prog 54 #[.agg #[.string (str r), .bool sh]] w (RetB w (.tuple #[.string (str (tk (dr r 1) b.toNat)), rdv (dr (dr r 1) b.toNat) ((sh || decide (r.length < 1)) || decide ((dr r 1).length < b.toNat))])) := by
  have hbv : beVal [b] = b.toNat := by simp [beVal]
  have NU := Lib.hid fun W => snum_any r sh 1 W hsh (by omega) hr
  have hsh2 : (sh || decide (r.length < 1)) = true → dr r 1 = [] := by
    intro h
    cases r with
    | nil => exact (tk_nil 1).2
    | cons x l => cases sh with
      | true => exact absurd (hsh rfl) (by simp)
      | false => simp at h
  have hr2 : (dr r 1).length ≤ maxLen := by unfold dr; split <;> simp <;> omega
  have ST := Lib.hid fun W => stake_any (dr r 1) (sh || decide (r.length < 1)) b.toNat W hsh2 (by have := b.toNat_lt; omega) hr2
  rw [hb, hbv] at NU
  obtain ⟨t, ht⟩ : ∃ t, tk (dr r 1) b.toNat = t := ⟨_, rfl⟩
  obtain ⟨q, hq⟩ : ∃ q, dr (dr r 1) b.toNat = q := ⟨_, rfl⟩
  obtain ⟨s1, hs1⟩ : ∃ s1, (sh || decide (r.length < 1)) = s1 := ⟨_, rfl⟩
  obtain ⟨s2, hs2⟩ : ∃ s2, (s1 || decide ((dr r 1).length < b.toNat)) = s2 := ⟨_, rfl⟩
  rw [hs1, hs2, ht, hq] at ST
  rw [hs1] at NU
  rw [hs1, hs2, ht, hq]
  obtain ⟨q1, hq1⟩ : ∃ q1, dr r 1 = q1 := ⟨_, rfl⟩
  rw [hq1] at ST NU
  clear hsh2 hr2 ht hq hs1 hs2 hq1 hsh hb hbv hr
  unfold rdv at NU ST
  have n0 : (0 : Int) ≤ (b.toNat : Int) := by omega
  go_enter Try.func54, Try.ntmps54
  go_wp2_with fail
  refine (NU.out _).mono ?_
  rintro e w1 ⟨rfl, hb1⟩
  have B5 : Blk w1 (w.heap.size + 1) 70 #[.string ⟨#[]⟩, .bool false] := (Blk.newAt (by simp)).below hb1 (by simp)
  have hb0 : Below w.heap.size w w1 := bto0 (ball (ball (Below.refl _ _) _) _) hb1
  go_wp2_with fail
  refine (ST.out _).mono ?_
  rintro e w2 ⟨rfl, hb2⟩
  have B6 := (B5.alloc (.cells #[.string (str q1), .bool s1] 70)).below hb2 (by have := B5.lt; simp; omega)
  have hbw : Below w.heap.size w w2 := bto0 (ball hb0 _) hb2
  have c60 : w2.cell? ⟨w.heap.size + 1, 0, none⟩ = some (.string ⟨#[]⟩) := B6.cell 0
  have c61 : w2.cell? ⟨w.heap.size + 1, 1, none⟩ = some (.bool false) := B6.cell 1
  have f60 := B6.frozen 0
  have f61 := B6.frozen 1
  have HH := Lib.hid (And.intro B6 hbw)
  clear B6 B5 hbw hb0 hb1 hb2 NU ST
  go_wp2
  exact text_end (R := w.heap.size + 1) (v := .string (str t)) (r := q) (sh := s2) ((HH.out.1.set_ 0 _).set_ 1 _) (by simp) (by simp) ⟨rfl, (HH.out.2.setCell (by simp) _).setCell (by simp) _⟩
end Go.Proofs.Ytflolnilagogpaa
