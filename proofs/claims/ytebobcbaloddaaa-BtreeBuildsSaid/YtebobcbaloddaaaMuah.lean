/-
  Several texts in one: Sl.
-/
import Derived.Test.YtebobcbaloddaaaMuad
import Derived.Test.YtebobcbaloddaaaProg
import Derived.Laws.Slices
import Derived.KernelRfl
/-
  Cuts of a slice of bytes that reads as a list: equations for the walk, and what the cut reads as.
-/
namespace Go.Proofs.Ytebobcbaloddaaa
section
set_option linter.unusedSimpArgs false
set_option linter.unusedVariables false
open Go.RowKit

theorem Try.elemB : Try.prog.elem 50 = 5 := by kernel_rfl
theorem Try.sizeB (W : World) : (Go.sizeOf 5).run Try.prog W = .ok 1 W := by kernel_rfl
theorem map_add0 (A : Option Addr) : A.map (fun x => x.add 0) = A := by cases A <;> simp [Addr.add]
section
variable {w0 : World} {B : Nat} {A : Option Addr} {n c : Nat} {l : List UInt8}
theorem Try.sliceB : Try.prog.underlying 50 = some (.slice (Try.prog.elem 50)) := by rw [Try.elemB]; exact Try.underlying50
/-- s[i:]. -/
theorem cutb_lo (k : IntKind) (i : Nat) (x : Int) (hx : x = i) (h : i ≤ n) (hc : n ≤ c) : ∃ A', (∀ W, (Instr.slice 50 (.slice A n c) (some (.int k x)) none none).run Try.prog W = .ok (.slice A' (n - i) (c - i)) W) ∧
    (∀ W B l, Reads W B 1 A n (bL l) → Reads W B 1 A' (n - i) (bL (l.drop i))) := by
  subst hx
  refine ⟨if c = i then A else A.map (·.add (i * 1)), fun W => ?_, fun W B l hr => ?_⟩
  · rw [run_slice_l W 50 A n c Try.sliceB k (i : Int) (by omega) (by omega), Try.elemB, Try.sizeB]
    simp [sliced, Result.andThen]
  · have := hr.cut (k := i) (cap := c) h hc
    rw [Nat.mul_one] at this ⊢
    have e : bL (l.drop i) = (bL l).drop i := by simp [bL, List.map_drop]
    rw [e]
    exact this
/-- s[:j]. -/
theorem cutb_hi (k : IntKind) (j : Nat) (x : Int) (hx : x = j) (h : j ≤ n) (hc : n ≤ c) : ∃ A', (∀ W, (Instr.slice 50 (.slice A n c) none (some (.int k x)) none).run Try.prog W = .ok (.slice A' j c) W) ∧
    (∀ W B l, Reads W B 1 A n (bL l) → Reads W B 1 A' j (bL (l.take j))) := by
  subst hx
  refine ⟨A, fun W => ?_, fun W B l hr => ?_⟩
  · rw [run_slice_h W 50 A n c Try.sliceB k (j : Int) (by omega) (by omega), Try.elemB, Try.sizeB]
    simp [sliced, Result.andThen, map_add0]
  · have := hr.takec j h
    rw [Nat.mul_one] at this
    have e : bL (l.take j) = (bL l).take j := by simp [bL, List.map_take]
    rw [e]
    exact this
/-- s[i:j]. -/
theorem cutb_mid (k k' : IntKind) (i j : Nat) (x y : Int) (hx : x = i) (hy : y = j) (h0 : i ≤ j) (h : j ≤ n) (hc : n ≤ c) : ∃ A', (∀ W, (Instr.slice 50 (.slice A n c) (some (.int k x)) (some (.int k' y)) none).run Try.prog W = .ok (.slice A' (j - i) (c - i)) W) ∧
    (∀ W B l, Reads W B 1 A n (bL l) → Reads W B 1 A' (j - i) (bL ((l.drop i).take (j - i)))) := by
  subst hx hy
  refine ⟨if c = i then A else A.map (·.add (i * 1)), fun W => ?_, fun W B l hr => ?_⟩
  · rw [run_slice_lh W 50 A n c Try.sliceB k k' (i : Int) (j : Int) (by omega) (by omega) (by omega), Try.elemB, Try.sizeB]
    simp [sliced, Result.andThen]
  · have h1 := hr.cut (k := i) (cap := c) (by omega) hc
    have h2 := h1.takec (j - i) (by omega)
    rw [Nat.mul_one, Nat.mul_one] at h2
    have e : bL ((l.drop i).take (j - i)) = ((bL l).drop i).take (j - i) := by simp [bL, List.map_drop, List.map_take]
    rw [e, Nat.mul_one]
    exact h2
theorem Reads.byte {w : World} {k : Nat} (hr : Reads w B 1 A n (bL l)) (hk : k < n) : ∃ ad b, A = some ad ∧ ad.block < B ∧ l[k]? = some b ∧ w.cell? (ad.add k) = some (.int .u8 (b.toNat : Int)) := by
  obtain ⟨ad, u, e, hb, hu, hc⟩ := hr.at_ hk
  unfold bL at hu
  rw [List.getElem?_map] at hu
  obtain ⟨b, h1, rfl⟩ := Option.map_eq_some_iff.1 hu
  exact ⟨ad, b, e, hb, h1, hc⟩
theorem Reads.bytes_len {w : World} (hr : Reads w B 1 A n (bL l)) : l.length = n := by have := hr.1; rw [bL_len] at this; omega
end
end
end Go.Proofs.Ytebobcbaloddaaa
