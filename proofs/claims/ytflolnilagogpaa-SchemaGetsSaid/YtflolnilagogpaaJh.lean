/-
  The reference's reader, by what is read: a byte, four bytes, a text.
-/
import Derived.Test.YtflolnilagogpaaJg
set_option linter.unusedSimpArgs false
set_option linter.unusedVariables false
namespace Go.Proofs.Ytflolnilagogpaa
open Go.RowKit

/-- A state of the reference's reader: short, nothing is left. -/
def St (r : List UInt8) (sh : Bool) : Prop := (sh = true → r = []) ∧ r.length ≤ maxLen
theorem St.dr {r : List UInt8} {sh : Bool} (h : St r sh) (k : Nat) : St (dr r k) (sh || decide (r.length < k)) := by
  refine ⟨fun e => ?_, ?_⟩
  · unfold Go.Proofs.Ytflolnilagogpaa.dr
    split
    · rfl
    · rename_i hk
      cases sh with
      | true => rw [h.1 rfl]; simp
      | false => simp [hk] at e
  · have := h.2
    unfold Go.Proofs.Ytflolnilagogpaa.dr
    split
    · simp
    · rw [List.length_drop]; omega
def RetRS (w : World) (r : List UInt8) (sh : Bool) (e : Ending) (w' : World) : Prop :=
  ∃ (s : ByteArray) (r' : List UInt8) (sh' : Bool), e = .returned (.tuple #[.string s, .agg #[.string (str r'), .bool sh']]) ∧ s.size ≤ 255 ∧ St r' sh' ∧ Rel gText r sh s.data.toList r' sh' ∧ Below w.heap.size w w'
def RetRC (w : World) (r : List UInt8) (sh : Bool) (e : Ending) (w' : World) : Prop :=
  ∃ (b : UInt8) (r' : List UInt8) (sh' : Bool), e = .returned (.tuple #[.int .i64 (b.toNat : Int), .agg #[.string (str r'), .bool sh']]) ∧ St r' sh' ∧ Rel gOne r sh b.toNat r' sh' ∧ Below w.heap.size w w'
def RetRU (w : World) (r : List UInt8) (sh : Bool) (e : Ending) (w' : World) : Prop :=
  ∃ (U : Nat) (r' : List UInt8) (sh' : Bool), e = .returned (.tuple #[.int .i64 (U : Int), .agg #[.string (str r'), .bool sh']]) ∧ U < 4294967296 ∧ St r' sh' ∧ Rel gFour r sh U r' sh' ∧ Below w.heap.size w w'
theorem rs_text (r : List UInt8) (sh : Bool) (w : World) (h : St r sh) : Calls Try.prog 54 #[.agg #[.string (str r), .bool sh]] w (RetRS w r sh) := by
  obtain ⟨b, hb⟩ := one_of (tk_len r 1)
  exact (stext_any r sh b hb w h.1 h.2).mono fun e w' ⟨he, hw⟩ => ⟨_, _, _, he, by rw [str_size, tk_len]; have := b.toNat_lt; omega, (h.dr 1).dr b.toNat, by rw [str_data]; exact rel_text hb, hw⟩
theorem rs_one (r : List UInt8) (sh : Bool) (w : World) (h : St r sh) : Calls Try.prog 35 #[.agg #[.string (str r), .bool sh], .int .i64 1] w (RetRC w r sh) := by
  obtain ⟨b, hb⟩ := one_of (tk_len r 1)
  have hbv : beVal [b] = b.toNat := by simp [beVal]
  exact (snum_any r sh 1 w h.1 (by omega) h.2).mono fun e w' ⟨he, hw⟩ => ⟨b, _, _, by rw [he, hb, hbv]; rfl, h.dr 1, rel_one hb, hw⟩
theorem rs_four (r : List UInt8) (sh : Bool) (w : World) (h : St r sh) : Calls Try.prog 35 #[.agg #[.string (str r), .bool sh], .int .i64 4] w (RetRU w r sh) :=
  (snum_any r sh 4 w h.1 (by omega) h.2).mono fun e w' ⟨he, hw⟩ => ⟨_, _, _, he, by have := beVal_lt (tk r 4); rw [tk_len] at this; exact this, h.dr 4, rel_four r sh, hw⟩
end Go.Proofs.Ytflolnilagogpaa
