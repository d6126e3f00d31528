/-
  Several texts in one: St.
-/
import Derived.Test.YtebobcbaloddaaaMuak
import Derived.Test.YtebobcbaloddaaaMuac
/-
  Slices of byte slices that came in.
-/
namespace Go.Proofs.Ytebobcbaloddaaa
section
set_option linter.unusedSimpArgs false
set_option linter.unusedVariables false
open Go.RowKit Go.ChangeShapes Go.WideShapes Go.Deep

/-- One of many slices of bytes: where it lies, its capacity, its bytes. -/
structure Rw where
  A : Option Addr
  c : Nat
  l : List UInt8
def Rw.val (r : Rw) : Value := .slice r.A r.l.length r.c
structure RRs (w : World) (B : Nat) (A : Option Addr) (n : Nat) (rows : List Rw) : Prop where
  len : rows.length = n
  outer : Reads w B 1 A n (rows.map Rw.val)
  cap : ∀ r ∈ rows, r.l.length ≤ r.c ∧ r.c ≤ maxLen
  inner : ∀ r ∈ rows, Reads w B 1 r.A r.l.length (bL r.l)
theorem RRs.below {w w' : World} {B n : Nat} {A : Option Addr} {rows : List Rw} (h : RRs w B A n rows) (hb : Below B w w') : RRs w' B A n rows :=
  ⟨h.len, h.outer.below hb, h.cap, fun r hr => (h.inner r hr).below hb⟩
theorem RRs.row {w : World} {B n k : Nat} {A : Option Addr} {rows : List Rw} (h : RRs w B A n rows) (hk : k < n) : ∃ ad r, A = some ad ∧ ad.block < B ∧ rows[k]? = some r ∧ w.cell? (ad.add k) = some (.slice r.A r.l.length r.c) ∧ r.l.length ≤ r.c ∧ r.c ≤ maxLen ∧ Reads w B 1 r.A r.l.length (bL r.l) := by
  obtain ⟨ad, u, e, hb, hu, hc⟩ := h.outer.at_ hk
  rw [List.getElem?_map] at hu
  obtain ⟨r, h1, rfl⟩ := Option.map_eq_some_iff.1 hu
  have hm := List.mem_of_getElem? h1
  exact ⟨ad, r, e, hb, h1, hc, (h.cap r hm).1, (h.cap r hm).2, h.inner r hm⟩
theorem ints_bytes : ∀ (l : List Int), (∀ x ∈ l, (Lit.int .u8 x).wf = true) → ∃ L : List UInt8, l.map (Value.int .u8) = bL L ∧ L.length = l.length
  | [], _ => ⟨[], rfl, rfl⟩
  | x :: l, h => by
    obtain ⟨L, h1, h2⟩ := ints_bytes l fun y hy => h y (by simp [hy])
    have hx := Go.bounds_u8 (h x (by simp))
    refine ⟨UInt8.ofNat x.toNat :: L, ?_, by simp [h2]⟩
    rw [List.map_cons, h1]
    simp only [bL, List.map_cons]
    congr 1
    congr 1
    simp
    omega
section
variable {H : Type} {enc : TypeId × Value → H} {P : Program} {w : World} {base : Nat} {spare : Nat → Bool} {held : Bool}
theorem trod_bytes {t e : TypeId} {n : Nat} {cs : List Value} {y : DataW H × List MemPlace} (ht : P.underlying t = some (.slice e)) (he : P.underlying e = some (.int .u8)) (hC : P.cellsOf e = 1) (h : DataW.trod enc P w base spare held n t cs = some y) :
    ∃ (A : Option Addr) (len cap : Nat) (L : List UInt8), cs = [.slice A len cap] ∧ len ≤ cap ∧ cap ≤ maxLen ∧ L.length = len ∧ Reads w w.heap.size 1 A len (bL L) := by
  obtain ⟨A, len, cap, l, rfl, h1, h2, h3, h4, h5⟩ := trod_ints ht he hC h
  obtain ⟨L, hL, hl⟩ := ints_bytes l h4
  rw [hL] at h5
  exact ⟨A, len, cap, L, rfl, h1, h2, by omega, h5⟩
theorem trod_bss {t e b : TypeId} {n : Nat} {cs : List Value} {y : DataW H × List MemPlace} (ht : P.underlying t = some (.slice e)) (he : P.underlying e = some (.slice b)) (hb : P.underlying b = some (.int .u8)) (hC : P.cellsOf e = 1) (hCb : P.cellsOf b = 1) (h : DataW.trod enc P w base spare held n t cs = some y) :
    ∃ (A : Option Addr) (len cap : Nat) (rows : List Rw), cs = [.slice A len cap] ∧ len ≤ cap ∧ cap ≤ maxLen ∧ RRs w w.heap.size A len rows := by
  obtain ⟨A, len, cap, L, rfl, h1, h2, h3, h4, h5⟩ := trod_sl (fun c => ∃ r : Rw, c = [r.val] ∧ r.l.length ≤ r.c ∧ r.c ≤ maxLen ∧ Reads w w.heap.size 1 r.A r.l.length (bL r.l)) ht hC (by omega) (fun m c y hc _ => by
    obtain ⟨A, len, cap, l, hx, a1, a2, a3, a4⟩ := trod_bytes he hb hCb hc
    subst a3
    exact ⟨⟨A, cap, l⟩, hx, a1, a2, a4⟩) h
  have hex : ∀ (L : List (List Value)), (∀ c ∈ L, ∃ r : Rw, c = [r.val] ∧ r.l.length ≤ r.c ∧ r.c ≤ maxLen ∧ Reads w w.heap.size 1 r.A r.l.length (bL r.l)) → ∃ l : List Rw, L = l.map (fun r => [r.val]) ∧ ∀ r ∈ l, r.l.length ≤ r.c ∧ r.c ≤ maxLen ∧ Reads w w.heap.size 1 r.A r.l.length (bL r.l) := by
    intro L
    induction L with
    | nil => intro _; exact ⟨[], rfl, by simp⟩
    | cons c r ih =>
      intro hL
      obtain ⟨v, rfl, hv⟩ := hL c (by simp)
      obtain ⟨l, rfl, hl⟩ := ih fun c hc => hL c (by simp [hc])
      exact ⟨v :: l, rfl, by intro u hu; rcases List.mem_cons.1 hu with rfl | hu; exact hv; exact hl u hu⟩
  obtain ⟨l, rfl, hl⟩ := hex L fun c hc => (h4 c hc).1
  refine ⟨A, len, cap, l, rfl, h1, h2, by simpa using h3, ?_, fun r hr => ⟨(hl r hr).1, (hl r hr).2.1⟩, fun r hr => (hl r hr).2.2⟩
  have : (l.map (fun r => [Rw.val r])).flatMap id = l.map Rw.val := by rw [List.flatMap_map]; exact flatMap_one _ l
  rwa [this] at h5
end
end
end Go.Proofs.Ytebobcbaloddaaa
