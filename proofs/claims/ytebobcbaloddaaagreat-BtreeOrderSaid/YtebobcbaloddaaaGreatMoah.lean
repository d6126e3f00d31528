/-
  Sl.
-/
import Derived.Test.YtebobcbaloddaaaGreatMoad
import Derived.Test.YtebobcbaloddaaaGreatProg
import Derived.Laws.Slices
import Derived.KernelRfl
namespace Go.Proofs.YtebobcbaloddaaaGreat
section
set_option linter.unusedSimpArgs false
set_option linter.unusedVariables false
open Go.RowKit
theorem Tryz.elemB : Tryz.prog.elem 58 = 5 := by kernel_rfl
theorem Tryz.sizeB (W : World) : (Go.sizeOf 5).run Tryz.prog W = .ok 1 W := by kernel_rfl
theorem map_add0 (A : Option Addr) : A.map (fun x => x.add 0) = A := by cases A <;> simp [Addr.add]
section
variable {w0 : World} {B : Nat} {A : Option Addr} {n c : Nat} {l : List UInt8}
theorem Tryz.sliceB : Tryz.prog.underlying 58 = some (.slice (Tryz.prog.elem 58)) := by rw [Tryz.elemB]; exact Tryz.underlying58
theorem cutb_lo (k : IntKind) (i : Nat) (x : Int) (hx : x = i) (h : i ≤ n) (hc : n ≤ c) : ∃ A', (∀ W, (Instr.slice 58 (.slice A n c) (some (.int k x)) none none).run Tryz.prog W = .ok (.slice A' (n - i) (c - i)) W) ∧
 (∀ W B l, Reads W B 1 A n (bL l) → Reads W B 1 A' (n - i) (bL (l.drop i))) := by
 subst hx
 refine ⟨if c = i then A else A.map (·.add (i * 1)), fun W => ?_, fun W B l hr => ?_⟩
 · rw [run_slice_l W 58 A n c Tryz.sliceB k (i : Int) (by omega) (by omega), Tryz.elemB, Tryz.sizeB]
   simp [sliced, Result.andThen]
 · have := hr.cut (k := i) (cap := c) h hc
   rw [Nat.mul_one] at this ⊢
   have e : bL (l.drop i) = (bL l).drop i := by simp [bL, List.map_drop]
   rw [e]
   exact this
theorem cutb_hi (k : IntKind) (j : Nat) (x : Int) (hx : x = j) (h : j ≤ n) (hc : n ≤ c) : ∃ A', (∀ W, (Instr.slice 58 (.slice A n c) none (some (.int k x)) none).run Tryz.prog W = .ok (.slice A' j c) W) ∧
 (∀ W B l, Reads W B 1 A n (bL l) → Reads W B 1 A' j (bL (l.take j))) := by
 subst hx
 refine ⟨A, fun W => ?_, fun W B l hr => ?_⟩
 · rw [run_slice_h W 58 A n c Tryz.sliceB k (j : Int) (by omega) (by omega), Tryz.elemB, Tryz.sizeB]
   simp [sliced, Result.andThen, map_add0]
 · have := hr.takec j h
   rw [Nat.mul_one] at this
   have e : bL (l.take j) = (bL l).take j := by simp [bL, List.map_take]
   rw [e]
   exact this
theorem Reads.byte {w : World} {k : Nat} (hr : Reads w B 1 A n (bL l)) (hk : k < n) : ∃ ad b, A = some ad ∧ ad.block < B ∧ l[k]? = some b ∧ w.cell? (ad.add k) = some (.int .u8 (b.toNat : Int)) := by
 obtain ⟨ad, u, e, hb, hu, hc⟩ := hr.at_ hk
 unfold bL at hu
 rw [List.getElem?_map] at hu
 obtain ⟨b, h1, rfl⟩ := Option.map_eq_some_iff.1 hu
 exact ⟨ad, b, e, hb, h1, hc⟩
theorem Reads.bytes_len {w : World} (hr : Reads w B 1 A n (bL l)) : l.length = n := by have := hr.1; rw [bL_len] at this; omega
end
end
end Go.Proofs.YtebobcbaloddaaaGreat
