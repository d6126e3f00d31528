/-
  Several texts in one: Kd Ke.
-/
import Derived.Test.YtgndebdoljnheaaGreatDoorMebf
import Derived.RegionTactic
import Derived.Lib.Strings
import Derived.StillTailTactics
/-
  Keys as bytes: the chapter's example; the law's may; Begins; Behind.
-/
namespace Go.Proofs.YtgndebdoljnheaaGreatDoor
section
set_option linter.unusedSimpArgs false
set_option linter.unusedVariables false
open Go.RowKit

def rowA : List Vl := [⟨0, 0, ⟨#[]⟩⟩, ⟨2, 0, ⟨#[]⟩⟩]
def rowB : List Vl := [⟨3, 0, ⟨#[97]⟩⟩]
theorem rowA_ok : ∀ v ∈ rowA, v.ok := by
  intro v hv
  unfold rowA at hv
  rcases List.mem_cons.1 hv with rfl | hv
  · exact ⟨by simp, by simp, by simp [ByteArray.size, maxLen]⟩
  · rw [List.mem_singleton] at hv; subst hv
    exact ⟨by simp, by simp, by simp [ByteArray.size, maxLen]⟩
theorem rowB_ok : ∀ v ∈ rowB, v.ok := by
  intro v hv
  unfold rowB at hv
  rw [List.mem_singleton] at hv; subst hv
  exact ⟨by simp, by simp, by simp [ByteArray.size, maxLen]⟩
/-- Does one text begin another one? -/
def begB (s t : ByteArray) : Bool := s.data.toList.isPrefixOf t.data.toList
theorem szl (s : ByteArray) : s.data.toList.length = s.size := rfl
theorem begB_cut (s t : ByteArray) (h : s.size ≤ t.size) : begB s t = ((t.extract 0 s.size).toList == s.toList) := by
  unfold begB
  rw [ByteArray.toList_eq, ByteArray.toList_eq, Lib.extract_data, List.drop_zero, Nat.sub_zero]
  rw [Bool.eq_iff_iff, List.isPrefixOf_iff_prefix, beq_iff_eq, List.prefix_iff_eq_take, szl]
  exact eq_comm
theorem begB_no (s t : ByteArray) (h : ¬ s.size ≤ t.size) : begB s t = false := by
  unfold begB
  rw [Bool.eq_false_iff, Ne, List.isPrefixOf_iff_prefix]
  intro hp
  have := hp.length_le
  rw [szl, szl] at this
  exact h this
end
end Go.Proofs.YtgndebdoljnheaaGreatDoor
/-
  Keys as bytes: Behind, the program's and the reference's.
-/
namespace Go.Proofs.YtgndebdoljnheaaGreatDoor
section
set_option linter.unusedSimpArgs false
set_option linter.unusedVariables false
open Go.RowKit

/-- Where bytes 255 at the end begin. -/
def nbf (l : List UInt8) : Nat → Nat
  | 0 => 0
  | k + 1 => if l[k]? = some 255 then nbf l k else k + 1
def nb (l : List UInt8) : Nat := nbf l l.length
def bhL (l : List UInt8) : List UInt8 := l.take (nb l - 1) ++ [(l[nb l - 1]?).getD 0 + 1]
def RetBh (l : List UInt8) (w : World) (e : Ending) (w' : World) : Prop := e = .returned (.tuple #[.string (if nb l = 0 then ⟨#[]⟩ else str (bhL l)), .bool (decide (nb l ≠ 0))]) ∧ Below w.heap.size w w'
theorem nbf_le (l : List UInt8) : ∀ k, nbf l k ≤ k
  | 0 => Nat.le_refl _
  | k + 1 => by
    unfold nbf
    have := nbf_le l k
    split <;> omega
theorem u8_inc (x : UInt8) (h : x ≠ 255) : ((x + 1).toNat : Int) = (x.toNat : Int) + 1 := by
  have h1 : x.toNat ≠ 255 := fun e => h (UInt8.toNat_inj.1 e)
  have := x.toNat_lt
  rw [UInt8.toNat_add]
  show (((x.toNat + 1) % 256 : Nat) : Int) = _
  omega
theorem u8_n255 {c : UInt8} (h : c ≠ 255) : ((c.toNat : Int) == 255) = false := by
  have : (c.toNat : Int) ≠ 255 := fun e => h (UInt8.toNat_inj.1 (by show c.toNat = 255; omega))
  simp [this]
theorem at_get (s : ByteArray) (k : Nat) (h : k < s.size) : s.data.toList[k]? = some s[k] := by
  rw [List.getElem?_eq_getElem (by rw [szl]; exact h)]
  rfl
end
end Go.Proofs.YtgndebdoljnheaaGreatDoor
