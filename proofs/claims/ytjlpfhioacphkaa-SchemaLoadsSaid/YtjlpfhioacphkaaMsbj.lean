/-
  Several texts in one: Dp.
-/
import Derived.Test.YtjlpfhioacphkaaMsbh
import Derived.Test.YtjlpfhioacphkaaMsan
/-
  The law DiskHeads.
-/
namespace Go.Proofs.Ytjlpfhioacphkaa
section
set_option linter.unusedSimpArgs false
set_option linter.unusedVariables false
open Go.RowKit

theorem z512_len : z512.length = 512 := List.length_replicate
theorem reads_take {w : World} {B n k : Nat} {A : Option Addr} {l : List UInt8} (h : Reads w B 1 A n (bL l)) (hk : k ≤ n) : Reads w B 1 A k (bL (l.take k)) := by
  have := h.takec k hk
  rw [Nat.mul_one] at this
  have e : bL (l.take k) = (bL l).take k := by simp [bL, List.map_take]
  rw [e]
  exact this
theorem own_z {w : World} {b : Nat} {v : Value} {L : List UInt8} (h : Own w b v (L ++ List.replicate 512 0)) : Own w b v (L ++ z512) := by unfold z512; exact h
theorem headL_get1 (k : UInt8) (c n : Nat) : (headL k c n)[1]? = some 0 := rfl
theorem headL_ok (k : UInt8) (c n : Nat) : hdOk (headL k c n) = true := by
  unfold hdOk
  rw [show (headL k c n).length = 512 from headP_len k c n 4 (by omega), headL_get1]; rfl
theorem headL_v (k : UInt8) (c n : Nat) (hc : c < 65536) (hn : n < 4294967296) : hdV (headL k c n) = .agg #[.int .u8 (k.toNat : Int), .int .u16 (c : Int), .int .u32 (n : Int)] := by
  unfold hdV
  rw [headL_ok, if_pos rfl]
  have e1 : hdK (headL k c n) = k.toNat := rfl
  have e2 : hdC (headL k c n) = c := by
    unfold hdC
    have : ((headL k c n).drop 2).take 2 = be 2 c := by
      unfold headL headP
      rw [List.append_assoc, List.append_assoc]
      show ((be 2 c) ++ _).take 2 = _
      exact List.take_left' (be_len _ _)
    rw [this, beVal_be]; omega
  have e3 : hdN (headL k c n) = n := by
    unfold hdN
    have : ((headL k c n).drop 4).take 4 = be 4 n := by
      unfold headL headP
      have h4 : ([k, 0] ++ be 2 c).length = 4 := by simp [be_len]
      have ht : (be 4 n).take 4 = be 4 n := List.take_of_length_le (by rw [be_len]; omega)
      rw [List.append_assoc, List.drop_left' h4, ht]
      exact List.take_left' (be_len _ _)
    rw [this, beVal_be]; omega
  rw [e1, e2, e3]
theorem hdV_form (l : List UInt8) : ∃ x y z : Int, hdV l = .agg #[.int .u8 x, .int .u16 y, .int .u32 z] := by
  unfold hdV
  split <;> exact ⟨_, _, _, rfl⟩
theorem convP {W : World} {g : Nat} {k : UInt8} {c n : Nat} (h : Blk W g 5 (bV (headL k c n))) : (convert 27 9 (.slice (some ⟨g, 0, none⟩) 512 512)).run Try.prog W = .ok (.string (str (headL k c n))) W :=
  conv_blk h _ 5 _ Try.underlying27 Try.underlying5 Try.underlying9 512 512 (headP_len k c n 4 (by omega))
theorem reads_b {w : World} {g n : Nat} {t : TypeId} {l : List UInt8} (h : Blk w g t (bV l)) (hn : l.length = n) : Reads w w.heap.size 1 (some ⟨g, 0, none⟩) n (bL l) := by
  refine ⟨by rw [bL_len]; omega, fun _ => ⟨_, rfl, h.lt, fun j u hu => ?_⟩⟩
  rw [add_head, h.cell, bV, List.getElem?_toArray]
  exact hu
end
end Go.Proofs.Ytjlpfhioacphkaa
