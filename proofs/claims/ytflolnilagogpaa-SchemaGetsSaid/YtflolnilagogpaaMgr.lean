/-
  Several texts in one: Jg Jh Jb.
-/
import Derived.Test.YtflolnilagogpaaMgq
/-
  The reference's reader: take, a number, a text.
-/
namespace Go.Proofs.Ytflolnilagogpaa
section
set_option linter.unusedSimpArgs false
set_option linter.unusedVariables false
open Go.RowKit

/-- The reference's reader: what is left, and whether something wasn't there. -/
def rdv (r : List UInt8) (sh : Bool) : Value := .agg #[.string (str r), .bool sh]
theorem take_end {W : World} {R : Nat} {tm : Array Value} {Q : Ending → World → Prop} {v : Value} {r : List UInt8} {sh : Bool} (hR : Blk W R 70 #[.string (str r), .bool sh])
    (h4 : tm[4]? = some v) (h5 : tm[5]? = some (.pointer (some ⟨R, 0, none⟩))) (h : Q (.returned (.tuple #[v, rdv r sh])) W) :
    bodyPost Try.prog Try.f52 Q Exit.ret { tmps := tm, defers := [] } W := by
  have q0 : W.cell? ⟨R, 0, none⟩ = _ := hR.cell 0
  have q1 : W.cell? ⟨R, 1, none⟩ = _ := hR.cell 1
  exact bodyPost_ret (v := .tuple #[v, rdv r sh]) (by simp [results, Try.results52, go_sem, h4, h5, q0, q1, rdv]) rfl h
theorem num_end {W : World} {R : Nat} {tm : Array Value} {Q : Ending → World → Prop} {v : Value} {r : List UInt8} {sh : Bool} (hR : Blk W R 70 #[.string (str r), .bool sh])
    (h4 : tm[4]? = some v) (h5 : tm[5]? = some (.pointer (some ⟨R, 0, none⟩))) (h : Q (.returned (.tuple #[v, rdv r sh])) W) :
    bodyPost Try.prog Try.f35 Q Exit.ret { tmps := tm, defers := [] } W := by
  have q0 : W.cell? ⟨R, 0, none⟩ = _ := hR.cell 0
  have q1 : W.cell? ⟨R, 1, none⟩ = _ := hR.cell 1
  exact bodyPost_ret (v := .tuple #[v, rdv r sh]) (by simp [results, Try.results35, go_sem, h4, h5, q0, q1, rdv]) rfl h
theorem text_end {W : World} {R : Nat} {tm : Array Value} {Q : Ending → World → Prop} {v : Value} {r : List UInt8} {sh : Bool} (hR : Blk W R 70 #[.string (str r), .bool sh])
    (h4 : tm[2]? = some v) (h5 : tm[3]? = some (.pointer (some ⟨R, 0, none⟩))) (h : Q (.returned (.tuple #[v, rdv r sh])) W) :
    bodyPost Try.prog Try.f54 Q Exit.ret { tmps := tm, defers := [] } W := by
  have q0 : W.cell? ⟨R, 0, none⟩ = _ := hR.cell 0
  have q1 : W.cell? ⟨R, 1, none⟩ = _ := hR.cell 1
  exact bodyPost_ret (v := .tuple #[v, rdv r sh]) (by simp [results, Try.results54, go_sem, h4, h5, q0, q1, rdv]) rfl h
theorem tk_nil (k : Nat) : tk [] k = List.replicate k 0 ∧ dr [] k = [] := by
  unfold tk dr
  cases k with
  | zero => simp
  | succ k => simp
set_option maxHeartbeats 2000000 in
theorem stake_any (r : List UInt8) (sh : Bool) (k : Nat) (w : World) (hsh : sh = true → r = []) (hk : k ≤ 100000) (hr : r.length ≤ maxLen) :
    Calls Try.prog 52 #[.agg #[.string (str r), .bool sh], .int .i64 k] w (RetB w (.tuple #[.string (str (tk r k)), rdv (dr r k) (sh || decide (r.length < k))])) := by
  have k0 : (0 : Int) ≤ (k : Int) := by omega
  have hz := str_size r
  by_cases hs : sh = true ∨ r.length < k
  · obtain ⟨i0, hi0, hz0, hs0, hy0⟩ := int_info8 Try.infoB
    have mk0 : ∀ W, (Instr.makeSlice 28 (.int .i64 (k : Int)) (.int .i64 (k : Int))).run Try.prog W = .ok (.slice (some ⟨W.heap.size, 0, none⟩) k k) (W.alloc (.cells (bV (List.replicate k 0)) 5)) := by
      intro W
      have h := run_make (P := Try.prog) W 28 5 i0 (.int .u8 0) Try.underlying28 hi0 hz0 .i64 .i64 k k (by omega) (by omega) (by rw [hy0]; omega) (by omega)
      rw [hs0] at h
      rw [← zeros_cells k]
      simp only [Int.toNat_natCast, Nat.mul_one] at h
      exact h
    clear hi0 hz0 hs0 hy0
    have htk : tk r k = List.replicate k 0 ∧ dr r k = [] := by
      rcases hs with h | h
      · rw [hsh h]; exact tk_nil k
      · unfold tk dr; rw [if_pos h, if_pos h]; exact ⟨rfl, rfl⟩
    have hb : (sh || decide (r.length < k)) = true := by
      rcases hs with h | h
      · rw [h]; rfl
      · rw [decide_eq_true h, Bool.or_true]
    have hRr : ∀ (W : World) (g : Nat), g = W.heap.size → (convert 28 9 (.slice (some ⟨g, 0, none⟩) k k)).run Try.prog (W.alloc (.cells (bV (List.replicate k 0)) 5)) = .ok (.string (str (List.replicate k 0))) (W.alloc (.cells (bV (List.replicate k 0)) 5)) := fun W g hg => by
      subst hg
      exact conv_reads (P := Try.prog) (reads_new W (bV (List.replicate k 0)) 5 (by rw [bV_toList]) (by rw [bL_len]; simp)) 28 5 9 Try.underlying28 Try.underlying5 Try.underlying9 k
    have cv := hRr ((w.alloc (.cells #[.string (str r), .bool sh] 70)).alloc (.cells #[.string ⟨#[]⟩, .bool false] 70)) (w.heap.size + 1 + 1) (by simp)
    rw [htk.1, htk.2, hb]
    have hsI : sh = false → ((str r).size : Int) < (k : Int) := fun h => by
      rcases hs with h' | h'
      · rw [h] at h'; cases h'
      · omega
    clear hRr htk hb hs hsh
    cases sh
    all_goals
      first | have hsJ := hsI rfl | skip
      clear hsI
      go_enter Try.func52, Try.ntmps52
      go_wp2
      exact take_end (R := w.heap.size + 1) (r := []) (sh := true) (by rw [show str [] = ⟨#[]⟩ from rfl]; with_reducible repeat (first | exact Blk.newAt (by simp) | refine Blk.alloc ?_ _)) (by simp) (by simp) ⟨rfl, (by with_reducible repeat (first | exact Below.refl _ _ | refine ball ?_ _))⟩
  · have hs0 : sh = false := by cases sh <;> simp_all
    have hkl : k ≤ r.length := by omega
    subst hs0
    have htk := tk_take hkl
    have hb : (false || decide (r.length < k)) = false := by rw [Bool.false_or]; exact decide_eq_false (by omega)
    have c1 := cut_hi (P := Try.prog) Try.underlying9 r (r.take k) .i64 (k : Int) k0 (by omega) (by rw [Int.toNat_natCast])
    have c2 := cut_lo (P := Try.prog) Try.underlying9 r (r.drop k) .i64 (k : Int) k0 (by omega) (by rw [Int.toNat_natCast])
    have hsI : (k : Int) ≤ ((str r).size : Int) := by omega
    have hsI2 : (k : Int) ≤ (r.length : Int) := by omega
    have hsN : ¬ r.length < k := by omega
    rw [htk.1, htk.2, hb]
    clear htk hb hs hsh
    go_enter Try.func52, Try.ntmps52
    go_wp2_with fail
    go_region
    go_wp2
    exact take_end (R := w.heap.size + 1) (r := r.drop k) (sh := false) (by with_reducible repeat (first | exact Blk.newAt (by simp) | refine Blk.drew ?_ | refine Blk.alloc ?_ _)) (by simp) (by simp) ⟨rfl, (by with_reducible repeat (first | exact Below.refl _ _ | refine Below.drew ?_ | refine ball ?_ _))⟩
theorem beVal7 {l : List UInt8} {k : Nat} (h : l.length = k) (hk : k ≤ 4) : ((beVal l : Nat) : Int) ≤ 4294967295 := by
  have := beVal_lt_of (l := l) (n := 4) (by omega)
  omega
set_option maxHeartbeats 2000000 in
theorem snum_any (r : List UInt8) (sh : Bool) (k : Nat) (w : World) (hsh : sh = true → r = []) (hk : k ≤ 4) (hr : r.length ≤ maxLen) :
    Calls Try.prog 35 #[.agg #[.string (str r), .bool sh], .int .i64 k] w (RetB w (.tuple #[.int .i64 (beVal (tk r k)), rdv (dr r k) (sh || decide (r.length < k))])) := by
  have ST := Lib.hid fun W => stake_any r sh k W hsh (by omega) hr
  have VA := Lib.hid fun W => dval_any (tk r k) (by rw [tk_len]; omega) W
  have hv := beVal7 (tk_len r k) hk
  have hv0 : (0 : Int) ≤ (beVal (tk r k) : Nat) := by omega
  have hwr : IntKind.i64.wrap ((beVal (tk r k) : Nat) : Int) = ((beVal (tk r k) : Nat) : Int) := by rw [IntKind.wrap_i64]; omega
  obtain ⟨U, hU⟩ : ∃ U, beVal (tk r k) = U := ⟨_, rfl⟩
  obtain ⟨t, ht⟩ : ∃ t, tk r k = t := ⟨_, rfl⟩
  obtain ⟨q, hq⟩ : ∃ q, dr r k = q := ⟨_, rfl⟩
  obtain ⟨b, hb⟩ : ∃ b, (sh || decide (r.length < k)) = b := ⟨_, rfl⟩
  rw [hU] at VA hv hv0 hwr ⊢
  rw [ht] at VA ST
  rw [hq, hb] at ST ⊢
  clear hU ht hq hb hsh hk hr
  go_enter Try.func35, Try.ntmps35
  go_wp2_with fail
  refine (ST.out _).mono ?_
  rintro e w1 ⟨rfl, hb1⟩
  unfold rdv
  have B5 : Blk w1 (w.heap.size + 1) 70 #[.string ⟨#[]⟩, .bool false] := (Blk.newAt (by simp)).below hb1 (by simp)
  have hb0 : Below w.heap.size w w1 := bto0 (ball (ball (Below.refl _ _) _) _) hb1
  go_wp2_with fail
  have B7 : Blk (w1.alloc (.cells #[.string (str q), .bool b] 70)) w1.heap.size 70 #[.string (str q), .bool b] := Blk.newAt rfl
  have B6 := B5.alloc (.cells #[.string (str q), .bool b] 70)
  have hb2 := ball hb0 (.cells #[.string (str q), .bool b] 70)
  obtain ⟨W0, hW0⟩ : ∃ W0, w1.alloc (.cells #[.string (str q), .bool b] 70) = W0 := ⟨_, rfl⟩
  rw [hW0] at B7 B6 hb2 ⊢
  have c70 : W0.cell? ⟨w1.heap.size, 0, none⟩ = some (.string (str q)) := B7.cell 0
  have c71 : W0.cell? ⟨w1.heap.size, 1, none⟩ = some (.bool b) := B7.cell 1
  have c60 : W0.cell? ⟨w.heap.size + 1, 0, none⟩ = some (.string ⟨#[]⟩) := B6.cell 0
  have c61 : W0.cell? ⟨w.heap.size + 1, 1, none⟩ = some (.bool false) := B6.cell 1
  have f60 := B6.frozen 0
  have f61 := B6.frozen 1
  have HH := Lib.hid (And.intro B6 hb2)
  clear hW0 B7 B6 B5 hb2 hb0 hb1 ST
  go_region_with (go_at_call 53; (with_reducible refine (VA.out _).mono ?_); rintro e w' ⟨rfl, rfl⟩)
  all_goals
    go_wp2
    exact num_end (R := w.heap.size + 1) (v := .int .i64 (U : Int)) (r := q) (sh := b) ((HH.out.1.set_ 0 _).set_ 1 _).drew (by simp [hwr]) (by simp) ⟨rfl, ((HH.out.2.setCell (by simp) _).setCell (by simp) _).drew⟩
/-- A text: as many bytes as the first one says. -/
theorem stext_any (r : List UInt8) (sh : Bool) (b : UInt8) (hb : tk r 1 = [b]) (w : World) (hsh : sh = true → r = []) (hr : r.length ≤ maxLen) :
    Calls Try.prog 54 #[.agg #[.string (str r), .bool sh]] w (RetB w (.tuple #[.string (str (tk (dr r 1) b.toNat)), rdv (dr (dr r 1) b.toNat) ((sh || decide (r.length < 1)) || decide ((dr r 1).length < b.toNat))])) := by
  have hbv : beVal [b] = b.toNat := by simp [beVal]
  have NU := Lib.hid fun W => snum_any r sh 1 W hsh (by omega) hr
  have hsh2 : (sh || decide (r.length < 1)) = true → dr r 1 = [] := by
    intro h
    cases r with
    | nil => exact (tk_nil 1).2
    | cons x l => cases sh with
      | true => exact absurd (hsh rfl) (by simp)
      | false => simp at h
  have hr2 : (dr r 1).length ≤ maxLen := by unfold dr; split <;> simp <;> omega
  have ST := Lib.hid fun W => stake_any (dr r 1) (sh || decide (r.length < 1)) b.toNat W hsh2 (by have := b.toNat_lt; omega) hr2
  rw [hb, hbv] at NU
  obtain ⟨t, ht⟩ : ∃ t, tk (dr r 1) b.toNat = t := ⟨_, rfl⟩
  obtain ⟨q, hq⟩ : ∃ q, dr (dr r 1) b.toNat = q := ⟨_, rfl⟩
  obtain ⟨s1, hs1⟩ : ∃ s1, (sh || decide (r.length < 1)) = s1 := ⟨_, rfl⟩
  obtain ⟨s2, hs2⟩ : ∃ s2, (s1 || decide ((dr r 1).length < b.toNat)) = s2 := ⟨_, rfl⟩
  rw [hs1, hs2, ht, hq] at ST
  rw [hs1] at NU
  rw [hs1, hs2, ht, hq]
  obtain ⟨q1, hq1⟩ : ∃ q1, dr r 1 = q1 := ⟨_, rfl⟩
  rw [hq1] at ST NU
  clear hsh2 hr2 ht hq hs1 hs2 hq1 hsh hb hbv hr
  unfold rdv at NU ST
  have n0 : (0 : Int) ≤ (b.toNat : Int) := by omega
  go_enter Try.func54, Try.ntmps54
  go_wp2_with fail
  refine (NU.out _).mono ?_
  rintro e w1 ⟨rfl, hb1⟩
  have B5 : Blk w1 (w.heap.size + 1) 70 #[.string ⟨#[]⟩, .bool false] := (Blk.newAt (by simp)).below hb1 (by simp)
  have hb0 : Below w.heap.size w w1 := bto0 (ball (ball (Below.refl _ _) _) _) hb1
  go_wp2_with fail
  refine (ST.out _).mono ?_
  rintro e w2 ⟨rfl, hb2⟩
  have B6 := (B5.alloc (.cells #[.string (str q1), .bool s1] 70)).below hb2 (by have := B5.lt; simp; omega)
  have hbw : Below w.heap.size w w2 := bto0 (ball hb0 _) hb2
  have c60 : w2.cell? ⟨w.heap.size + 1, 0, none⟩ = some (.string ⟨#[]⟩) := B6.cell 0
  have c61 : w2.cell? ⟨w.heap.size + 1, 1, none⟩ = some (.bool false) := B6.cell 1
  have f60 := B6.frozen 0
  have f61 := B6.frozen 1
  have HH := Lib.hid (And.intro B6 hbw)
  clear B6 B5 hbw hb0 hb1 hb2 NU ST
  go_wp2
  exact text_end (R := w.heap.size + 1) (v := .string (str t)) (r := q) (sh := s2) ((HH.out.1.set_ 0 _).set_ 1 _) (by simp) (by simp) ⟨rfl, (HH.out.2.setCell (by simp) _).setCell (by simp) _⟩
end
end Go.Proofs.Ytflolnilagogpaa
/-
  The reference's reader, by what is read: a byte, four bytes, a text.
-/
namespace Go.Proofs.Ytflolnilagogpaa
section
set_option linter.unusedSimpArgs false
set_option linter.unusedVariables false
open Go.RowKit

/-- A state of the reference's reader: short, nothing is left. -/
def St (r : List UInt8) (sh : Bool) : Prop := (sh = true → r = []) ∧ r.length ≤ maxLen
theorem St.dr {r : List UInt8} {sh : Bool} (h : St r sh) (k : Nat) : St (dr r k) (sh || decide (r.length < k)) := by
  refine ⟨fun e => ?_, ?_⟩
  · unfold Go.Proofs.Ytflolnilagogpaa.dr
    split
    · rfl
    · rename_i hk
      cases sh with
      | true => rw [h.1 rfl]; simp
      | false => simp [hk] at e
  · have := h.2
    unfold Go.Proofs.Ytflolnilagogpaa.dr
    split
    · simp
    · rw [List.length_drop]; omega
def RetRS (w : World) (r : List UInt8) (sh : Bool) (e : Ending) (w' : World) : Prop :=
  ∃ (s : ByteArray) (r' : List UInt8) (sh' : Bool), e = .returned (.tuple #[.string s, .agg #[.string (str r'), .bool sh']]) ∧ s.size ≤ 255 ∧ St r' sh' ∧ Rel gText r sh s.data.toList r' sh' ∧ Below w.heap.size w w'
def RetRC (w : World) (r : List UInt8) (sh : Bool) (e : Ending) (w' : World) : Prop :=
  ∃ (b : UInt8) (r' : List UInt8) (sh' : Bool), e = .returned (.tuple #[.int .i64 (b.toNat : Int), .agg #[.string (str r'), .bool sh']]) ∧ St r' sh' ∧ Rel gOne r sh b.toNat r' sh' ∧ Below w.heap.size w w'
def RetRU (w : World) (r : List UInt8) (sh : Bool) (e : Ending) (w' : World) : Prop :=
  ∃ (U : Nat) (r' : List UInt8) (sh' : Bool), e = .returned (.tuple #[.int .i64 (U : Int), .agg #[.string (str r'), .bool sh']]) ∧ U < 4294967296 ∧ St r' sh' ∧ Rel gFour r sh U r' sh' ∧ Below w.heap.size w w'
theorem rs_text (r : List UInt8) (sh : Bool) (w : World) (h : St r sh) : Calls Try.prog 54 #[.agg #[.string (str r), .bool sh]] w (RetRS w r sh) := by
  obtain ⟨b, hb⟩ := one_of (tk_len r 1)
  exact (stext_any r sh b hb w h.1 h.2).mono fun e w' ⟨he, hw⟩ => ⟨_, _, _, he, by rw [str_size, tk_len]; have := b.toNat_lt; omega, (h.dr 1).dr b.toNat, by rw [str_data]; exact rel_text hb, hw⟩
theorem rs_one (r : List UInt8) (sh : Bool) (w : World) (h : St r sh) : Calls Try.prog 35 #[.agg #[.string (str r), .bool sh], .int .i64 1] w (RetRC w r sh) := by
  obtain ⟨b, hb⟩ := one_of (tk_len r 1)
  have hbv : beVal [b] = b.toNat := by simp [beVal]
  exact (snum_any r sh 1 w h.1 (by omega) h.2).mono fun e w' ⟨he, hw⟩ => ⟨b, _, _, by rw [he, hb, hbv]; rfl, h.dr 1, rel_one hb, hw⟩
theorem rs_four (r : List UInt8) (sh : Bool) (w : World) (h : St r sh) : Calls Try.prog 35 #[.agg #[.string (str r), .bool sh], .int .i64 4] w (RetRU w r sh) :=
  (snum_any r sh 4 w h.1 (by omega) h.2).mono fun e w' ⟨he, hw⟩ => ⟨_, _, _, he, by have := beVal_lt (tk r 4); rw [tk_len] at this; exact this, h.dr 4, rel_four r sh, hw⟩
end
end Go.Proofs.Ytflolnilagogpaa
/-
  The reader of a book's writing: a table.
-/
namespace Go.Proofs.Ytflolnilagogpaa
section
set_option linter.unusedSimpArgs false
set_option linter.unusedVariables false
open Go.RowKit

theorem Try.infoC : (Try.prog.info? 46).map (fun i => (i.zero, i.size, i.bytes)) = some (some (.agg #[.string ⟨#[]⟩, .int .u8 0, .int .i64 0, .int .i64 0]), 4, 40) := by kernel_rfl
theorem vC_snoc (l : List Cl) (c : Cl) : vC (l ++ [c]) = vC l ++ c.cells := by simp [vC]
theorem cell_but2 {a b : World} {g : Nat} (h : a.grownBy b (some g)) {p : Addr} {v : Value} (hp : a.cell? p = some v) (hne : p.block ≠ g) : b.cell? p = some v := cell_but h hp hne
/-- What the reader answers: a table of new memory. -/
def RetTb (w : World) (g B : Nat) (r : List UInt8) (sh : Bool) (e : Ending) (w' : World) : Prop :=
  ∃ (x : Tb) (r' : List UInt8) (sh' : Bool), e = .returned x.agg ∧ TbOk w' w'.heap.size x ∧ (∀ ad, x.A = some ad → w.heap.size ≤ ad.block) ∧ Rd w' g B r' sh' ∧ Rel gTab r sh x.pt r' sh' ∧ w.grownBy w' (some g)
theorem tb_end {W : World} {R : Nat} {tm : Array Value} {Q : Ending → World → Prop} {nm : ByteArray} {A1 : Option Addr} {n1 c1 : Nat} {f r p : Int} (hR : Blk W R 44 #[.string nm, .slice A1 n1 c1, .int .u32 f, .int .i64 r, .int .i64 p])
    (h2 : tm[2]? = some (.pointer (some ⟨R, 0, none⟩))) (h : Q (.returned (.agg #[.string nm, .slice A1 n1 c1, .int .u32 f, .int .i64 r, .int .i64 p])) W) :
    bodyPost Try.prog Try.f26 Q Exit.ret { tmps := tm, defers := [] } W := by
  have q0 : W.cell? ⟨R, 0, none⟩ = _ := hR.cell 0
  have q1 : W.cell? ⟨R, 1, none⟩ = _ := hR.cell 1
  have q2 : W.cell? ⟨R, 2, none⟩ = _ := hR.cell 2
  have q3 : W.cell? ⟨R, 3, none⟩ = _ := hR.cell 3
  have q4 : W.cell? ⟨R, 4, none⟩ = _ := hR.cell 4
  exact bodyPost_ret (v := .agg #[.string nm, .slice A1 n1 c1, .int .u32 f, .int .i64 r, .int .i64 p]) (by simp [results, Try.results26, go_sem, h2, q0, q1, q2, q3, q4]) rfl h
set_option maxRecDepth 100000 in
set_option maxHeartbeats 16000000 in
theorem rtable2_any (g B : Nat) (r : List UInt8) (sh : Bool) (w : World) (h : Rd w g B r sh) :
    Calls Try.prog 26 #[.pointer (some ⟨g, 0, none⟩)] w (RetTb w g B r sh) := by
  have hgl := h.lt
  have T := Lib.hid (text_rel g B r sh (w.alloc (.cells #[.string ⟨#[]⟩, .slice none 0 0, .int .u32 0, .int .i64 0, .int .i64 0] 44)) (h.alloc _))
  have HW := Lib.hid (but_alloc w g (.cells #[.string ⟨#[]⟩, .slice none 0 0, .int .u32 0, .int .i64 0, .int .i64 0] 44))
  have HR := Lib.hid (Blk.new w 44 #[.string ⟨#[]⟩, .slice none 0 0, .int .u32 0, .int .i64 0, .int .i64 0])
  obtain ⟨i0, hi0, hz0, hs0, hy0⟩ := int_info8 Try.infoC
  clear h
  go_enter Try.func26, Try.ntmps26
  go_wp2_with fail
  refine T.out.mono ?_
  rintro e w2 ⟨nm, r2, s2, rfl, hnm, hrd2, hl2, hbt2⟩
  have B2 := HR.out.grown hbt2 (by simp; omega)
  have C2 := Lib.hid (count_rel g B _ _ (w2.alloc (.cells #[.string nm, .slice none 0 0, .int .u32 0, .int .i64 0, .int .i64 0] 44)) (hrd2.alloc _))
  have hz2 := B2.lt
  have H2 := Lib.hid (And.intro hl2 (And.intro (but_trans HW.out hbt2) B2))
  clear hrd2 hl2 hbt2 B2 T
  go_wp2_with fail
  refine C2.out.mono ?_
  rintro e w3 ⟨b3, r3, s3, rfl, hrd3, hl3, hbt3⟩
  have b30 : (0 : Int) ≤ (b3.toNat : Int) := by omega
  have b31 : (b3.toNat : Int) ≤ 255 := by have := b3.toNat_lt; omega
  have hg2 : g < w2.heap.size := by omega
  have B3 := (H2.out.2.2.alloc (.cells #[.string nm, .slice none 0 0, .int .u32 0, .int .i64 0, .int .i64 0] 44)).grown hbt3 (by simp; omega)
  have T3 := (Blk.new w2 44 #[.string nm, .slice none 0 0, .int .u32 0, .int .i64 0, .int .i64 0]).grown hbt3 (by simp; omega)
  have hz3 := T3.lt
  have H3 := Lib.hid (And.intro hl3 (And.intro (but_trans (but_alloc_ H2.out.2.1 _) hbt3) (And.intro B3 (And.intro T3 hrd3))))
  clear hrd3 hl3 hbt3 B3 T3 C2
  go_wp2
  go_loopw [9] (fun v wr => ∃ (k : Nat) (cs : List Cl) (u : Value) (rk : List UInt8) (sk : Bool), k ≤ b3.toNat ∧ v = .int .i64 k ∧ Blk wr w2.heap.size 44 #[.string nm, u, .int .u32 0, .int .i64 0, .int .i64 0] ∧ wr.ownsRow (w2.heap.size + 1) 46 4 u k (vC cs) ∧ cs.length = k ∧ Rd wr g B rk sk ∧ Rel (gMany gCol k) r3 s3 (cs.map Cl.pc) rk sk ∧ w.grownBy wr (some g) ∧ Blk wr w.heap.size 44 #[.string ⟨#[]⟩, .slice none 0 0, .int .u32 0, .int .i64 0, .int .i64 0] ∧ ∀ c ∈ cs, c.ok) (fun v _ => b3.toNat - (intOf v).toNat)
  case atStart => exact ⟨0, [], _, r3, s3, by omega, rfl, H3.out.2.2.2.1, ⟨rfl, .inl ⟨rfl, rfl⟩⟩, rfl, H3.out.2.2.2.2, rel_many_nil _ _ _, H3.out.2.1, H3.out.2.2.1, by simp⟩
  case round =>
    obtain ⟨wo, rfl⟩ : ∃ wo : World, wo = wr := ⟨_, rfl⟩
    obtain ⟨k, cs, u, rk, sk, hk, rfl, hT, own, hcl, hrd, hl, hbt, hR, hok⟩ := hrel
    have q0 : (0 : Int) ≤ (k : Int) := by omega
    have t1 : wo.cell? ⟨w2.heap.size, 1, none⟩ = some u := hT.cell 1
    have hzo := hT.lt
    by_cases hlt : k < b3.toNat
    · have q1 : (k : Int) < (b3.toNat : Int) := by omega
      have q2 : k < 255 := by omega
      have C4 := Lib.hid (text_rel g B _ _ wo.drew hrd.drew)
      have HQ := Lib.hid (And.intro hT (And.intro own (And.intro hcl (And.intro hl (And.intro hbt (And.intro hR hok))))))
      clear hT own hcl hrd hl hbt hR hok
      go_wp2_with fail
      go_region_law (first
        | (refine step_go rfl ?_; go_simp; go_at_call 47; refine C4.out.mono ?_; rintro e w4 ⟨cn, r4, s4, rfl, hcn, hrd4, hl4, hbt4⟩; have B4 := but_trans (but_drew (but_refl _ _)) hbt4; have T4 := HQ.out.1.grown B4 (by simp; omega); have c4 : w4.cell? ⟨w2.heap.size, 1, none⟩ = some u := T4.cell 1; have z4 := T4.lt; have C5 := Lib.hid (byte_any g B _ _ w4 hrd4); have H4 := Lib.hid (And.intro hl4 B4); clear T4 hrd4 hl4 hbt4 B4)
        | (refine step_go rfl ?_; go_simp; go_at_call 46; refine C5.out.mono ?_; rintro e w5 ⟨b5, ad5, cc5, hb5, rfl, cb5, hne5, hrd5, hbt5⟩; have B5 := but_trans H4.out.2 hbt5; have T5 := HQ.out.1.grown B5 (by simp; omega); have c5 : w5.cell? ⟨w2.heap.size, 1, none⟩ = some u := T5.cell 1; have z5 := T5.lt; have C6 := Lib.hid (num_rel g B _ _ w5 hrd5); have b50 : (0 : Int) ≤ (b5.toNat : Int) := (by omega); have b51 : (b5.toNat : Int) ≤ 255 := (by have := b5.toNat_lt; omega); have H5 := Lib.hid (And.intro (rel_one (sh := s4) hb5) (And.intro B5 (And.intro cb5 hne5))); clear T5 hrd5 hbt5 B5 hb5 hne5)
        | (refine step_go rfl ?_; go_simp; go_at_call 48; refine C6.out.mono ?_; rintro e w6 ⟨U6, r6, s6, rfl, hU6, hrd6, hl6, hbt6⟩; have B6 := but_trans H5.out.2.1 hbt6; have T6 := HQ.out.1.grown B6 (by simp; omega); have c6 : w6.cell? ⟨w2.heap.size, 1, none⟩ = some u := T6.cell 1; have cb6 := cell_but hbt6 H5.out.2.2.1 H5.out.2.2.2; have z6 := T6.lt; have C7 := Lib.hid (num_rel g B _ _ w6 hrd6); have H6 := Lib.hid (And.intro hl6 (And.intro B6 cb6)); clear T6 hrd6 hl6 hbt6 B6)
        | (refine step_go rfl ?_; go_simp; go_at_call 48; refine C7.out.mono ?_; rintro e w7 ⟨U7, r7, s7, rfl, hU7, hrd7, hl7, hbt7⟩; have B7 := but_trans H6.out.2.1 hbt7; have T7 := HQ.out.1.grown B7 (by simp; omega); have c7 : w7.cell? ⟨w2.heap.size, 1, none⟩ = some u := T7.cell 1; have cb7 := cell_but hbt7 H6.out.2.2 H5.out.2.2.2; have z7 := T7.lt; have O7 := own_but HQ.out.2.1 B7 (by omega); have H7 := Lib.hid (And.intro hl7 (And.intro B7 (And.intro T7 (And.intro O7 hrd7)))); clear T7 hrd7 hl7 hbt7 B7 O7)
        | (refine step_pushR (news := [.string cn, .int .u8 (b5.toNat : Int), .int .i64 (U6 : Int), .int .i64 (U7 : Int)]) rfl (.tmp 12) (.tmp 24) 41 rfl (w2.heap.size + 1) 46 i0 _ 4 40 Try.underlying41 hi0 hz0 hs0 hy0 rfl (by decide) u k _ (by simp [Act.eval, Act.put]) H7.out.2.2.2.1 rfl _ (by simp [Act.eval, Act.put]) rfl rfl (by intro u hu; simp only [List.mem_cons, List.not_mem_nil, or_false] at hu; rcases hu with rfl | rfl | rfl | rfl <;> rfl) (by omega) (by omega) (by omega) ?_; intro v8 w8 own8 hg8 hB8; obtain ⟨A8, cc8, rfl, hcc8⟩ := own_form own8; have T8 := blk_far_own (H7.out.2.2.2.1.alloc _) (H7.out.2.2.1.alloc _) hg8 (by omega); have c8 : w8.cell? ⟨w2.heap.size, 1, none⟩ = some u := T8.cell 1; have f8 : w8.frozen? ⟨w2.heap.size, 1, none⟩ = false := T8.frozen 1; have z8 := T8.lt; have H8 := Lib.hid (And.intro own8 (And.intro hg8 T8)); clear own8 hg8 T8))
      all_goals (try go_wp2)
      all_goals
        have O7a := H7.out.2.2.2.1.alloc (.cells #[.string cn, .int .u8 (b5.toNat : Int), .int .i64 (U6 : Int), .int .i64 (U7 : Int)] 46)
        have hbt8 := but_own (but_alloc_ (but_trans HQ.out.2.2.2.2.1 H7.out.2.1) (.cells #[.string cn, .int .u8 (b5.toNat : Int), .int .i64 (U6 : Int), .int .i64 (U7 : Int)] 46)) O7a H8.out.2.1 (by omega)
        have hrd8 := ((H7.out.2.2.2.2.alloc (.cells #[.string cn, .int .u8 (b5.toNat : Int), .int .i64 (U6 : Int), .int .i64 (U7 : Int)] 46)).own O7a H8.out.2.1 (by omega))
        have hR8 := blk_far_own O7a ((HQ.out.2.2.2.2.2.1.grown H7.out.2.1 (by simp; omega)).alloc (.cells #[.string cn, .int .u8 (b5.toNat : Int), .int .i64 (U6 : Int), .int .i64 (U7 : Int)] 46)) H8.out.2.1 (by omega)
        have hcol := rel_col H4.out.1 H5.out.1.int H6.out.1.int H7.out.1.int
        exact ⟨⟨k + 1, cs ++ [⟨cn, (b5.toNat : Int), (U6 : Int), (U7 : Int)⟩], .slice A8 (k + 1) cc8, r7, s7, by omega, by go_num, H8.out.2.2.set_ 1 _, by rw [vC_snoc]; exact own_farI H8.out.1 _ (by omega) _ _, by simp [HQ.out.2.2.1], hrd8.far (by simp; omega) _, by rw [List.map_append]; exact HQ.out.2.2.2.1.snoc hcol, but_far hbt8 (by simp; omega) _, hR8.far (by simp; omega) _, fun c hc => by
          rcases List.mem_append.1 hc with h1 | h1
          · exact HQ.out.2.2.2.2.2.2 c h1
          · rw [List.mem_singleton] at h1
            subst h1
            exact ⟨by (unfold maxLen; show cn.size ≤ _; omega), b50, b51⟩⟩, by simp [intOf]; omega⟩
    · obtain rfl : b3.toNat = k := by omega
      obtain ⟨A1, c1, rfl, hc1⟩ := own_form own
      have N1 := Lib.hid (num_rel g B _ _ wo hrd)
      have HQ := Lib.hid (And.intro hT (And.intro own (And.intro hcl (And.intro hl (And.intro hbt (And.intro hR hok))))))
      clear hT own hcl hrd hl hbt hR hok
      go_wp2_with fail
      refine N1.out.mono ?_
      rintro e w4 ⟨U1, r4, s4, rfl, hU1, hrd4, hl4, hbt4⟩
      have N2 := Lib.hid (num_rel g B _ _ w4 hrd4)
      have u10 : (0 : Int) ≤ (U1 : Int) := by omega
      have u11 : (U1 : Int) ≤ 4294967295 := by omega
      have H4 := Lib.hid (And.intro hl4 hbt4)
      clear hrd4 hl4 hbt4 N1 t1
      go_wp2_with fail
      refine N2.out.mono ?_
      rintro e w5 ⟨U2, r5, s5, rfl, hU2, hrd5, hl5, hbt5⟩
      have N3 := Lib.hid (num_rel g B _ _ w5 hrd5)
      have H5 := Lib.hid (And.intro hl5 hbt5)
      clear hrd5 hl5 hbt5 N2
      go_wp2_with fail
      refine N3.out.mono ?_
      rintro e w6 ⟨U3, r6, s6, rfl, hU3, hrd6, hl6, hbt6⟩
      have HB6 := but_trans (but_trans H4.out.2 H5.out.2) hbt6
      have T6 := HQ.out.1.grown HB6 (by simp; omega)
      have x0 : w6.cell? ⟨w2.heap.size, 0, none⟩ = some (.string nm) := T6.cell 0
      have x1 : w6.cell? ⟨w2.heap.size, 1, none⟩ = some (.slice A1 b3.toNat c1) := T6.cell 1
      have x2 : w6.cell? ⟨w2.heap.size, 2, none⟩ = some (.int .u32 0) := T6.cell 2
      have x3 : w6.cell? ⟨w2.heap.size, 3, none⟩ = some (.int .i64 0) := T6.cell 3
      have x4 : w6.cell? ⟨w2.heap.size, 4, none⟩ = some (.int .i64 0) := T6.cell 4
      have f2 := T6.frozen 2
      have f3 := T6.frozen 3
      have f4 := T6.frozen 4
      have z6 := T6.lt
      have O6 := own_but HQ.out.2.1 HB6 (by omega)
      have R6 := HQ.out.2.2.2.2.2.1.grown HB6 (by simp; omega)
      have G6 := but_trans HQ.out.2.2.2.2.1 HB6
      have hN := rel_nums H4.out.1.int H5.out.1.int hl6.int
      have zR := R6.lt
      have zne : w.heap.size ≠ w2.heap.size := by omega
      have y0 : w6.cell? ⟨w.heap.size, 0, none⟩ = some (.string ⟨#[]⟩) := R6.cell 0
      have y1 : w6.cell? ⟨w.heap.size, 1, none⟩ = some (.slice none 0 0) := R6.cell 1
      have y2 : w6.cell? ⟨w.heap.size, 2, none⟩ = some (.int .u32 0) := R6.cell 2
      have y3 : w6.cell? ⟨w.heap.size, 3, none⟩ = some (.int .i64 0) := R6.cell 3
      have y4 : w6.cell? ⟨w.heap.size, 4, none⟩ = some (.int .i64 0) := R6.cell 4
      have g0 := R6.frozen 0
      have g1 := R6.frozen 1
      have g2 := R6.frozen 2
      have g3 := R6.frozen 3
      have g4 := R6.frozen 4
      have H6 := Lib.hid (And.intro T6 (And.intro O6 (And.intro R6 (And.intro G6 (And.intro hrd6 hN)))))
      clear T6 O6 R6 G6 hrd6 hl6 hbt6 HB6 N3 hN
      go_wp2
      have RF := (((((((H6.out.2.2.1.far (p := ⟨w2.heap.size, 2, none⟩) (by simp; omega) (.int .u32 (U1 : Int))).far (p := ⟨w2.heap.size, 3, none⟩) (by simp; omega) (.int .i64 (U2 : Int))).far (p := ⟨w2.heap.size, 4, none⟩) (by simp; omega) (.int .i64 (U3 : Int))).set_ 0 (.string nm)).set_ 1 (.slice A1 b3.toNat c1)).set_ 2 (.int .u32 (U1 : Int))).set_ 3 (.int .i64 (U2 : Int))).set_ 4 (.int .i64 (U3 : Int))
      have P1 := own_farI (own_farI (own_farI (own_farI (own_farI (own_farI (own_farI (own_farI H6.out.2.1 w2.heap.size (by omega) 2 (.int .u32 (U1 : Int))) w2.heap.size (by omega) 3 (.int .i64 (U2 : Int))) w2.heap.size (by omega) 4 (.int .i64 (U3 : Int))) w.heap.size (by omega) 0 (.string nm)) w.heap.size (by omega) 1 (.slice A1 b3.toNat c1)) w.heap.size (by omega) 2 (.int .u32 (U1 : Int))) w.heap.size (by omega) 3 (.int .i64 (U2 : Int))) w.heap.size (by omega) 4 (.int .i64 (U3 : Int))
      refine tb_end RF (by simp) ⟨⟨nm, A1, b3.toNat, c1, (U1 : Int), (U2 : Int), (U3 : Int), cs⟩, r6, s6, rfl, ⟨⟨by (unfold maxLen; show nm.size ≤ _; omega), ⟨hc1, own_cap P1⟩, Reads.of_own P1, HQ.out.2.2.2.2.2.2⟩, u10, u11⟩, fun ad h => by have := own_addr P1 ad h; omega, ?_, rel_tab H2.out.1 H3.out.1 HQ.out.2.2.2.1 H6.out.2.2.2.2.2, ?_⟩
      · exact ((((((((H6.out.2.2.2.2.1.far hg2 _).far hg2 _).far hg2 _).far hgl _).far hgl _).far hgl _).far hgl _).far hgl _)
      · have hw2 : w.heap.size ≤ w2.heap.size := by omega
        exact but_far (but_far (but_far (but_far (but_far (but_far (but_far (but_far H6.out.2.2.2.1 hw2 _) hw2 _) hw2 _) (Nat.le_refl _) _) (Nat.le_refl _) _) (Nat.le_refl _) _) (Nat.le_refl _) _) (Nat.le_refl _) _
end
end Go.Proofs.Ytflolnilagogpaa
