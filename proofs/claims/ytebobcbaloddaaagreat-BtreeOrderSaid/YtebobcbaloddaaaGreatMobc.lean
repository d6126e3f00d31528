/-
  Sa Sb Sc Sd.
-/
import Derived.Test.YtebobcbaloddaaaGreatMobb
import Derived.Test.YtebobcbaloddaaaGreatMoaq
import Derived.Test.YtebobcbaloddaaaGreatMoab
import Derived.Test.YtebobcbaloddaaaGreatMoak
import Derived.Deep.QuietTactic
import Derived.IntWalk
import Derived.WalkSpells
namespace Go.Proofs.YtebobcbaloddaaaGreat
section
set_option linter.unusedSimpArgs false
set_option linter.unusedVariables false
open Go.RowKit
end
end Go.Proofs.YtebobcbaloddaaaGreat
namespace Go.Proofs.YtebobcbaloddaaaGreat
section
set_option linter.unusedSimpArgs false
set_option linter.unusedVariables false
open Go.RowKit
end
end Go.Proofs.YtebobcbaloddaaaGreat
namespace Go.Proofs.YtebobcbaloddaaaGreat
section
set_option linter.unusedSimpArgs false
set_option linter.unusedVariables false
open Go.RowKit
end
end Go.Proofs.YtebobcbaloddaaaGreat
namespace Go.Proofs.YtebobcbaloddaaaGreat
section
set_option linter.unusedSimpArgs false
set_option linter.unusedVariables false
open Go.RowKit
section
variable {w : World} {A : Option Addr} {n c B : Nat} {l : List UInt8}
def RetCl (w : World) (l : List UInt8) (e : Ending) (w' : World) : Prop := ∃ A c, e = .returned (.slice A l.length c) ∧ Own w' w.heap.size (.slice A l.length c) l ∧ l.length ≤ c ∧ Below w.heap.size w w'
theorem clone_any (hr : Reads w B 1 A n (bL l)) (hB : B ≤ w.heap.size) (hn : n ≤ 1000000) : Calls Tryz.prog 104 #[.slice A n c] w (RetCl w l) := by
 have hl := hr.bytes_len
 have nl := fun W => Lib.run_eql_slice_nil (P := Tryz.prog) W 58 5 A n c 0 0 Tryz.underlying58
 rcases A with _ | ad
 · have h0 : n = 0 := by
    rcases Nat.eq_zero_or_pos n with h0 | h0
    · exact h0
    · obtain ⟨ad, h, _⟩ := hr.2 h0; cases h
   subst h0
   have : l = [] := List.eq_nil_of_length_eq_zero hl
   subst this
   clear hr
   go_enter Tryz.func104, Tryz.ntmps104
   go_wp2
   go_ret
   exact ⟨none, 0, rfl, Own.nil _ _, Nat.le_refl _, Below.refl _ _⟩
 · have own0 := Own.empty w (g := w.heap.size) rfl
   have hr0 := hr.alloc hB (.cells #[] 5)
   have hz0 : w.heap.size ≤ (w.alloc (.cells #[] 5)).heap.size := by simp
   have Hl := Lib.hid hl; clear hl
   clear hr
   go_enter Tryz.func104, Tryz.ntmps104
   go_wp2_with (at_builtin; refine wpList_appR rfl _ _ rfl w.heap.size _ [] l (some ad) n c B rfl own0 rfl hr0 (by rw [Hl.out]; simp; omega) hz0 ?_; intro v1 w1 own1 kp1; rw [List.nil_append] at own1; obtain ⟨A1, c1, rfl, hc1⟩ := own1.form)
   have hb1 := kp1.below w.heap.size w (Nat.le_refl _) (ball (Below.refl _ _) _)
   clear own0 hr0 hz0 kp1
   go_ret
   exact ⟨A1, c1, rfl, own1, hc1, hb1⟩
end
end
end Go.Proofs.YtebobcbaloddaaaGreat
