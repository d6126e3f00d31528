/-
  A head of a page that came in: a byte, a number of two bytes, a number of four.
-/
import Derived.Test.YtcpbkaeilmabaaaOpen
namespace Go.Proofs.Ytcpbkaeilmabaaa
open Go.RowKit Go.ChangeShapes Go.WideShapes Go.Deep
section
variable {H : Type} {enc : TypeId × Value → H} {P : Program} {w : World} {base : Nat} {spare : Nat → Bool} {held : Bool}
theorem trod_head {t tk ti ts : TypeId} {fs : Array Field} {n : Nat} {cs : List Value} {y : DataW H × List MemPlace} (ht : P.underlying t = some (.struct fs)) (hone : oneCellFields P fs = true) (hC : P.cellsOf t = 3) (hf : fs.toList.map (·.type) = [tk, ti, ts])
    (hk : P.underlying tk = some (.int .u8)) (hi : P.underlying ti = some (.int .u16)) (hs : P.underlying ts = some (.int .u32)) (h : DataW.trod enc P w base spare held n t cs = some y) :
    ∃ a b c : Int, cs = [.int .u8 a, .int .u16 b, .int .u32 c] ∧ (0 ≤ a ∧ a ≤ 255) ∧ (0 ≤ b ∧ b ≤ 65535) ∧ (0 ≤ c ∧ c ≤ 4294967295) := by
  obtain ⟨xs, m, _, _, hlen, hxl, hfd⟩ := DataW.trod_struct ht h
  rw [hC] at hlen
  match cs, hlen with
  | [c0, c1, c2], _ =>
    have hfs : fs.size = 3 := by have := congrArg List.length hf; simpa using this
    obtain ⟨l⟩ := fs
    match l, hfs, hf with
    | [f0, f1, f2], _, hf =>
      simp only [List.map_cons, List.map_nil, List.cons.injEq, and_true] at hf
      obtain ⟨rfl, rfl, rfl⟩ := hf
      match xs, hxl with
      | [y0, y1, y2], _ =>
        obtain ⟨o0, k0⟩ := hone_of hone 0 f0 rfl
        obtain ⟨o1, k1⟩ := hone_of hone 1 f1 rfl
        obtain ⟨o2, k2⟩ := hone_of hone 2 f2 rfl
        have e0 := hfd 0 f0 rfl
        have e1 := hfd 1 f1 rfl
        have e2 := hfd 2 f2 rfl
        rw [o0, k0] at e0; rw [o1, k1] at e1; rw [o2, k2] at e2
        obtain ⟨a, ha, _, wa⟩ := DataW.trod_int hk e0
        obtain ⟨b, hb, _, wb⟩ := DataW.trod_int hi e1
        obtain ⟨s, hs', _, ws⟩ := DataW.trod_int hs e2
        simp at ha hb hs'
        subst ha; subst hb; subst hs'
        exact ⟨a, b, s, rfl, Go.bounds_u8 wa, Go.bounds_u16 wb, Go.bounds_u32 ws⟩
end
end Go.Proofs.Ytcpbkaeilmabaaa
