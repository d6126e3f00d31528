/-
  A slice of operations on disks that came in: a number, a page, a byte, a truth.
-/
import Derived.Test.YtcpbkaeilmabaaaOpen
namespace Go.Proofs.Ytcpbkaeilmabaaa
open Go.RowKit Go.ChangeShapes Go.WideShapes Go.Deep

structure Op4 where
  k : Int
  p : Int
  b : Int
  s : Bool
def Op4.cells (v : Op4) : List Value := [.int .i64 v.k, .int .u32 v.p, .int .u8 v.b, .bool v.s]
def Op4.ok (v : Op4) : Prop := (-9223372036854775808 ≤ v.k ∧ v.k ≤ 9223372036854775807) ∧ (0 ≤ v.p ∧ v.p ≤ 4294967295) ∧ (0 ≤ v.b ∧ v.b ≤ 255)
def vO (l : List Op4) : List Value := l.flatMap Op4.cells
theorem vO_len (l : List Op4) : (vO l).length = l.length * 4 := flat_len _ 4 l fun _ _ => rfl
theorem vO_at {l : List Op4} {k : Nat} {v : Op4} (h : l[k]? = some v) (j : Nat) (hj : j < 4) : (vO l)[k * 4 + j]? = v.cells[j]? := flat_at Op4.cells 4 l k v j (fun _ _ => rfl) h hj
theorem Reads.op {w : World} {B : Nat} {A : Option Addr} {n k : Nat} {l : List Op4} (hr : Reads w B 4 A n (vO l)) (hk : k < n) :
    ∃ ad v, A = some ad ∧ ad.block < B ∧ l[k]? = some v ∧ w.cell? (ad.add (k * 4)) = some (.int .i64 v.k) ∧ w.cell? ⟨(ad.add (k * 4)).block, (ad.add (k * 4)).off + 1, none⟩ = some (.int .u32 v.p) ∧ w.cell? ⟨(ad.add (k * 4)).block, (ad.add (k * 4)).off + 2, none⟩ = some (.int .u8 v.b) ∧ w.cell? ⟨(ad.add (k * 4)).block, (ad.add (k * 4)).off + 3, none⟩ = some (.bool v.s) := by
  have hl : l.length = n := by have := hr.1; rw [vO_len] at this; omega
  obtain ⟨ad, hA, hb, hc⟩ := hr.2 (by omega)
  have hv : l[k]? = some (l[k]'(by omega)) := List.getElem?_eq_getElem (by omega)
  refine ⟨ad, l[k]'(by omega), hA, hb, hv, ?_, ?_, ?_, ?_⟩
  · have := hc (k * 4 + 0) _ (by rw [vO_at hv 0 (by omega)]; rfl)
    simpa using this
  · rw [field_add _ _ _ (by omega)]
    exact hc (k * 4 + 1) _ (by rw [vO_at hv 1 (by omega)]; rfl)
  · rw [field_add _ _ _ (by omega)]
    exact hc (k * 4 + 2) _ (by rw [vO_at hv 2 (by omega)]; rfl)
  · rw [field_add _ _ _ (by omega)]
    exact hc (k * 4 + 3) _ (by rw [vO_at hv 3 (by omega)]; rfl)

section
variable {H : Type} {enc : TypeId × Value → H} {P : Program} {w : World} {base : Nat} {spare : Nat → Bool} {held : Bool}
theorem trod_op {t tk tp tb ts : TypeId} {fs : Array Field} {n : Nat} {cs : List Value} {y : DataW H × List MemPlace} (ht : P.underlying t = some (.struct fs)) (hone : oneCellFields P fs = true) (hC : P.cellsOf t = 4) (hf : fs.toList.map (·.type) = [tk, tp, tb, ts])
    (hk : P.underlying tk = some (.int .i64)) (hp : P.underlying tp = some (.int .u32)) (hb : P.underlying tb = some (.int .u8)) (hs : P.underlying ts = some .bool) (h : DataW.trod enc P w base spare held n t cs = some y) :
    ∃ v : Op4, cs = v.cells ∧ v.ok := by
  obtain ⟨xs, m, _, _, hlen, hxl, hfd⟩ := DataW.trod_struct ht h
  rw [hC] at hlen
  match cs, hlen with
  | [c0, c1, c2, c3], _ =>
    have hfs : fs.size = 4 := by have := congrArg List.length hf; simpa using this
    obtain ⟨l⟩ := fs
    match l, hfs, hf with
    | [f0, f1, f2, f3], _, hf =>
      simp only [List.map_cons, List.map_nil, List.cons.injEq, and_true] at hf
      obtain ⟨rfl, rfl, rfl, rfl⟩ := hf
      match xs, hxl with
      | [y0, y1, y2, y3], _ =>
        obtain ⟨o0, k0⟩ := hone_of hone 0 f0 rfl
        obtain ⟨o1, k1⟩ := hone_of hone 1 f1 rfl
        obtain ⟨o2, k2⟩ := hone_of hone 2 f2 rfl
        obtain ⟨o3, k3⟩ := hone_of hone 3 f3 rfl
        have e0 := hfd 0 f0 rfl
        have e1 := hfd 1 f1 rfl
        have e2 := hfd 2 f2 rfl
        have e3 := hfd 3 f3 rfl
        rw [o0, k0] at e0; rw [o1, k1] at e1; rw [o2, k2] at e2; rw [o3, k3] at e3
        obtain ⟨a, ha, _, wa⟩ := DataW.trod_int hk e0
        obtain ⟨b, hb', _, wb⟩ := DataW.trod_int hp e1
        obtain ⟨c, hc', _, wc⟩ := DataW.trod_int hb e2
        obtain ⟨s, hs', _⟩ := DataW.trod_bool hs e3
        simp at ha hb' hc' hs'
        subst ha; subst hb'; subst hc'; subst hs'
        exact ⟨⟨a, b, c, s⟩, rfl, Go.bounds_i64 wa, Go.bounds_u32 wb, Go.bounds_u8 wc⟩
theorem trod_ops {t e tk tp tb ts : TypeId} {fs : Array Field} {n : Nat} {cs : List Value} {y : DataW H × List MemPlace} (ht : P.underlying t = some (.slice e)) (he : P.underlying e = some (.struct fs)) (hone : oneCellFields P fs = true) (hC : P.cellsOf e = 4) (hf : fs.toList.map (·.type) = [tk, tp, tb, ts])
    (hk : P.underlying tk = some (.int .i64)) (hp : P.underlying tp = some (.int .u32)) (hb : P.underlying tb = some (.int .u8)) (hs : P.underlying ts = some .bool) (h : DataW.trod enc P w base spare held n t cs = some y) :
    ∃ (A : Option Addr) (len cap : Nat) (l : List Op4), cs = [.slice A len cap] ∧ len ≤ cap ∧ cap ≤ maxLen ∧ l.length = len ∧ (∀ v ∈ l, v.ok) ∧ Reads w w.heap.size 4 A len (vO l) := by
  obtain ⟨A, len, cap, L, rfl, h1, h2, h3, h4, h5⟩ := trod_sl (fun c => ∃ v : Op4, c = v.cells ∧ v.ok) ht hC (by omega) (fun m c y hc _ => trod_op he hone hC hf hk hp hb hs hc) h
  have hex : ∀ (L : List (List Value)), (∀ c ∈ L, ∃ v : Op4, c = v.cells ∧ v.ok) → ∃ l : List Op4, L = l.map Op4.cells ∧ ∀ v ∈ l, v.ok := by
    intro L
    induction L with
    | nil => intro _; exact ⟨[], rfl, by simp⟩
    | cons c r ih =>
      intro hL
      obtain ⟨v, rfl, hv⟩ := hL c (by simp)
      obtain ⟨l, rfl, hl⟩ := ih fun c hc => hL c (by simp [hc])
      exact ⟨v :: l, rfl, by intro u hu; rcases List.mem_cons.1 hu with rfl | hu; exact hv; exact hl u hu⟩
  obtain ⟨l, rfl, hl⟩ := hex L fun c hc => (h4 c hc).1
  refine ⟨A, len, cap, l, rfl, h1, h2, by simpa using h3, hl, ?_⟩
  have : (l.map Op4.cells).flatMap id = vO l := by unfold vO; rw [List.flatMap_map]; rfl
  rwa [this] at h5
end
end Go.Proofs.Ytcpbkaeilmabaaa
