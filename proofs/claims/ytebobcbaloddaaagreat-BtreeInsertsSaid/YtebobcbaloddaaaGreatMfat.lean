/-
  Dt.
-/
import Derived.Test.YtebobcbaloddaaaGreatMfaq
import Derived.Test.YtebobcbaloddaaaGreatMfak
import Derived.Deep.RegionWith
import Derived.Deep.RegionHeld3
import Derived.BigGuardPart
namespace Go.Proofs.YtebobcbaloddaaaGreat
section
set_option linter.unusedSimpArgs false
set_option linter.unusedVariables false
open Go.RowKit
theorem Tryz.infoS : (Tryz.prog.info? 9).map (fun i => (i.zero, i.size, i.bytes)) = some (some (.string ⟨#[]⟩), 1, 16) := by kernel_rfl
def RD (w : World) (B n : Nat) (v : Value) (ps : List (List UInt8)) (T : List Bool) : Prop :=
 ∃ A c A2 c2, v = .agg #[.slice A n c, .slice A2 n c2] ∧ Reads w B 1 A n (sL ps) ∧ Reads w B 1 A2 n (tL T) ∧ n ≤ c ∧ n ≤ c2
theorem RD.hT {w : World} {B n : Nat} {v : Value} {ps : List (List UInt8)} {T : List Bool} (h : RD w B n v ps T) : T.length = n ∧ ps.length = n := by
 obtain ⟨A, c, A2, c2, rfl, h1, h2, _⟩ := h
 have a := h1.1; have b := h2.1
 rw [sL_len] at a; rw [tL_len] at b
 omega
theorem RD.below {w w' : World} {B n : Nat} {v : Value} {ps : List (List UInt8)} {T : List Bool} (h : RD w B n v ps T) {B' : Nat} (hb : Below B' w w') (hB : B ≤ B') : RD w' B n v ps T := by
 obtain ⟨A, c, A2, c2, rfl, h1, h2, h3⟩ := h
 exact ⟨A, c, A2, c2, rfl, h1.below (hb.mono hB), h2.below (hb.mono hB), h3⟩
theorem Reads.text {w : World} {B : Nat} {A : Option Addr} {n k : Nat} {ps : List (List UInt8)} (hr : Reads w B 1 A n (sL ps)) (hk : k < n) : ∃ ad p, A = some ad ∧ ad.block < B ∧ ps[k]? = some p ∧ w.cell? (ad.add k) = some (.string (str p)) := by
 obtain ⟨ad, u, e, hb, hu, hc⟩ := hr.at_ hk
 unfold sL at hu
 rw [List.getElem?_map] at hu
 obtain ⟨b, h1, rfl⟩ := Option.map_eq_some_iff.1 hu
 exact ⟨ad, b, e, hb, h1, hc⟩
end
end Go.Proofs.YtebobcbaloddaaaGreat
