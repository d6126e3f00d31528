/-
  The reader of a book's writing: count, text, number.
-/
import Derived.Test.YtflolnilagogpaaIw
set_option linter.unusedSimpArgs false
set_option linter.unusedVariables false
namespace Go.Proofs.Ytflolnilagogpaa
open Go.RowKit

theorem but_far {w a : World} {g : Nat} (h : w.grownBy a (some g)) {p : Addr} (hp : w.heap.size ≤ p.block) (u : Value) : w.grownBy (a.setCell p u) (some g) := by
  have k := (Below.refl 0 a).setCell (p := p) (Nat.zero_le _) u
  exact ⟨k.os.trans h.os, k.tape.trans h.tape, k.output.trans h.output, Nat.le_trans h.size k.size, fun i hi hne => (Below.heap_setCell _ _ _ _ (by omega)).trans (h.block i hi hne)⟩
theorem Rd.far {a : World} {g B : Nat} {r : List UInt8} {sh : Bool} (h : Rd a g B r sh) {p : Addr} (hp : g < p.block) (u : Value) : Rd (a.setCell p u) g B r sh := by
  obtain ⟨A, m, c, h1, h2, h3, h4⟩ := h
  have hk : a.grownBy (a.setCell p u) (some p.block) := by
    have k := (Below.refl 0 a).setCell (p := p) (Nat.zero_le _) u
    exact ⟨k.os, k.tape, k.output, k.size, fun i hi hne => Below.heap_setCell _ _ _ _ (fun e => hne (by rw [e]))⟩
  exact ⟨A, m, c, h1.far (by omega) u, reads_but hk h2 (by omega), h3, h4⟩
/-- The entry with which bytes begin, as a reader takes it; what is left; whether something wasn't there. -/
theorem or_i64 (U : Nat) (b : UInt8) (hU : U < 16777216) : bits .or .i64 (wrap64 ((U : Int) * 256)) (b.toNat : Int) = ((256 * U + b.toNat : Nat) : Int) := by
  have hb := b.toNat_lt
  rw [show wrap64 ((U : Int) * 256) = (U : Int) * 256 from by unfold wrap64; omega]
  show IntKind.i64.wrap ((BitVec.ofInt 64 ((U : Int) * 256) ||| BitVec.ofInt 64 (b.toNat : Int)).toNat : Int) = _
  have e1 : (BitVec.ofInt 64 ((U : Int) * 256)).toNat = 256 * U := by rw [BitVec.toNat_ofInt]; omega
  have e2 : (BitVec.ofInt 64 (b.toNat : Int)).toNat = b.toNat := by rw [BitVec.toNat_ofInt]; omega
  rw [BitVec.toNat_or, e1, e2, or_nat]
  simp [IntKind.wrap, IntKind.bits, IntKind.signed]; omega
def RetNm (w : World) (g B : Nat) (r : List UInt8) (sh : Bool) (k : Nat) (e : Ending) (w' : World) : Prop :=
  e = .returned (.int .i64 (beVal (tk r k) : Int)) ∧ Rd w' g B (dr r k) (sh || decide (r.length < k)) ∧ w.grownBy w' (some g)
set_option maxHeartbeats 2000000 in
theorem rnum_any (g B : Nat) (r : List UInt8) (sh : Bool) (w : World) (h : Rd w g B r sh) :
    Calls Try.prog 48 #[.pointer (some ⟨g, 0, none⟩)] w (RetNm w g B r sh 4) := by
  have T := Lib.hid (take_any g B r sh 4 w h (by omega))
  have hlen := tk_len r 4
  unfold RetNm
  unfold RetTk at T
  generalize tk r 4 = L at *
  generalize dr r 4 = D at *
  generalize (sh || decide (r.length < 4)) = sh' at *
  have HL := Lib.hid hlen; clear hlen h
  go_enter Try.func48, Try.ntmps48
  go_wp2_with fail
  refine T.out.mono ?_
  rintro e w1 ⟨A, c, rfl, hc, hr, hrd, hbt, hne⟩
  have HRd := Lib.hid (And.intro hrd hbt)
  clear hrd hbt
  go_wp2
  go_loop [3, 9] (fun uv iv => ∃ j : Nat, j ≤ 4 ∧ iv = .int .i64 j ∧ uv = .int .i64 ((beVal (L.take j) : Nat) : Int)) (fun _ iv => 4 - (intOf iv).toNat)
  case atStart => exact ⟨0, by omega, rfl, rfl⟩
  case round =>
    obtain ⟨j, hj, rfl, rfl⟩ := hrel
    have q0 : (0 : Int) ≤ (j : Int) := by omega
    by_cases hlt : j < 4
    · have q1 : (j : Int) < 4 := by omega
      obtain ⟨ad, b, rfl, _, hb, cb⟩ := hr.byte hlt
      have hbt := Lib.hid (beVal_take hb)
      have hlt2 : beVal (L.take j) < 16777216 := by
        have h1 := beVal_lt_of (l := L.take j) (n := 3) (by rw [List.length_take]; omega)
        omega
      have hor := or_i64 (beVal (L.take j)) b hlt2
      rw [← hbt.out] at hor
      clear hlt2 hb hbt
      obtain ⟨U, hU⟩ : ∃ U, beVal (L.take j) = U := ⟨_, rfl⟩
      rw [hU] at hor ⊢
      clear hU
      have HOR := Lib.hid hor; clear hor
      have xb : (b.toNat : Int) ≤ 255 := by have := b.toNat_lt; omega
      have xb0 : (0 : Int) ≤ (b.toNat : Int) := by omega
      go_wp2
      go_round
      case rel => exact ⟨j + 1, by omega, by go_num, val_int HOR.out⟩
      case measure => simp [intOf]; omega
    · obtain rfl : j = 4 := by omega
      have hT : Hid (beVal (L.take 4) = beVal L) := Lib.hid (by rw [List.take_of_length_le (by rw [HL.out]; exact Nat.le_refl _)])
      go_wp2
      go_ret
      exact ⟨by rw [hT.out]; rfl, HRd.out.1, HRd.out.2⟩

def RetOne (w : World) (g B : Nat) (r : List UInt8) (sh : Bool) (e : Ending) (w' : World) : Prop :=
  ∃ b : UInt8, tk r 1 = [b] ∧ e = .returned (.int .i64 (b.toNat : Int)) ∧ Rd w' g B (dr r 1) (sh || decide (r.length < 1)) ∧ w.grownBy w' (some g)
theorem one_of {l : List UInt8} (h : l.length = 1) : ∃ b, l = [b] := by
  match l, h with
  | [b], _ => exact ⟨b, rfl⟩
/-- One byte, where it lies. -/
def RetB1 (w : World) (g B : Nat) (r : List UInt8) (sh : Bool) (e : Ending) (w' : World) : Prop :=
  ∃ (b : UInt8) (ad : Addr) (c : Nat), tk r 1 = [b] ∧ e = .returned (.slice (some ad) 1 c) ∧ w'.cell? ad = some (.int .u8 (b.toNat : Int)) ∧ ad.block ≠ g ∧ Rd w' g B (dr r 1) (sh || decide (r.length < 1)) ∧ w.grownBy w' (some g)
theorem byte_any (g B : Nat) (r : List UInt8) (sh : Bool) (w : World) (h : Rd w g B r sh) :
    Calls Try.prog 46 #[.pointer (some ⟨g, 0, none⟩), .int .i64 1] w (RetB1 w g B r sh) :=
  (take_any g B r sh 1 w h (by omega)).mono fun e w' ⟨A, c, he, hc, hr, hrd, hbt, hne⟩ => by
    obtain ⟨b, hb⟩ := one_of (tk_len r 1)
    rw [hb] at hr
    obtain ⟨ad, b', hA, _, hb', cb⟩ := hr.byte (show 0 < 1 by omega)
    simp at hb'
    subst hb'
    rw [add_zero_] at cb
    exact ⟨b, ad, c, hb, by rw [he, hA], cb, hne (by omega) ad hA, hrd, hbt⟩
theorem count_any (g B : Nat) (r : List UInt8) (sh : Bool) (w : World) (h : Rd w g B r sh) :
    Calls Try.prog 25 #[.pointer (some ⟨g, 0, none⟩)] w (RetOne w g B r sh) := by
  have T := Lib.hid (take_any g B r sh 1 w h (by omega))
  obtain ⟨b, hb⟩ := one_of (tk_len r 1)
  unfold RetTk at T
  rw [hb] at T
  have HB := Lib.hid hb
  clear h hb
  have b0 : (0 : Int) ≤ (b.toNat : Int) := by omega
  have b1 : (b.toNat : Int) ≤ 255 := by have := b.toNat_lt; omega
  go_enter Try.func25, Try.ntmps25
  go_wp2_with fail
  refine T.out.mono ?_
  rintro e w1 ⟨A, c, rfl, hc, hr, hrd, hbt, hne⟩
  obtain ⟨ad, b', rfl, _, hb', cb⟩ := hr.byte (show 0 < 1 by omega)
  simp at hb'
  subst hb'
  have cb' : w1.cell? ad = some (.int .u8 (b.toNat : Int)) := by have h := cb; rwa [add_zero_] at h
  have HRd := Lib.hid (And.intro hrd hbt)
  clear hrd hbt hr cb
  go_wp2
  go_ret
  exact ⟨b, HB.out, rfl, HRd.out.1, HRd.out.2⟩
/-- A text: as many bytes as the first one says. -/
def RetTxt (w : World) (g B : Nat) (r : List UInt8) (sh : Bool) (e : Ending) (w' : World) : Prop :=
  ∃ (b : UInt8), tk r 1 = [b] ∧ e = .returned (.string (str (tk (dr r 1) b.toNat))) ∧ Rd w' g B (dr (dr r 1) b.toNat) ((sh || decide (r.length < 1)) || decide ((dr r 1).length < b.toNat)) ∧ w.grownBy w' (some g)
theorem text2_any (g B : Nat) (r : List UInt8) (sh : Bool) (w : World) (h : Rd w g B r sh) :
    Calls Try.prog 47 #[.pointer (some ⟨g, 0, none⟩)] w (RetTxt w g B r sh) := by
  have C := Lib.hid (count_any g B r sh w h)
  clear h
  go_enter Try.func47, Try.ntmps47
  go_wp2_with fail
  refine C.out.mono ?_
  rintro e w1 ⟨b, hb, rfl, hrd, hbt⟩
  have T := Lib.hid (take_any g B (dr r 1) (sh || decide (r.length < 1)) b.toNat w1 hrd (by have := b.toNat_lt; omega))
  have H1 := Lib.hid (And.intro hb hbt)
  clear hb hrd hbt
  go_wp2_with fail
  refine T.out.mono ?_
  rintro e w2 ⟨A, c, rfl, hc, hr, hrd, hbt, hne⟩
  have cv := conv_reads (P := Try.prog) hr 28 5 9 Try.underlying28 Try.underlying5 Try.underlying9 c
  have H2 := Lib.hid (And.intro hrd (but_trans H1.out.2 hbt))
  obtain ⟨s, hs⟩ : ∃ s, str (tk (dr r 1) b.toNat) = s := ⟨_, rfl⟩
  rw [hs] at cv
  have HS := Lib.hid hs
  clear hr hrd hbt hs
  go_wp2
  go_ret
  exact ⟨b, H1.out.1, by rw [HS.out]; rfl, H2.out.1, H2.out.2⟩
end Go.Proofs.Ytflolnilagogpaa
