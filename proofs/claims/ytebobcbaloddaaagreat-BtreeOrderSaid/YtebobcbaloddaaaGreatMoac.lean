/-
  Open Op Ya.
-/
import Derived.Test.YtebobcbaloddaaaGreatMoab
import Derived.ProofKit
import Derived.Lib.SmallJoins
import Derived.Deep.Slices
import Derived.Deep.Fields
namespace Go.Proofs.YtebobcbaloddaaaGreat
section
set_option linter.unusedSimpArgs false
set_option linter.unusedVariables false
open Go.RowKit Go.ChangeShapes Go.WideShapes Go.Deep
theorem flat_at {α : Type} (f : α → List Value) (sz : Nat) : ∀ (l : List α) (k : Nat) (x : α) (j : Nat), (∀ y ∈ l, (f y).length = sz) → l[k]? = some x → j < sz → (l.flatMap f)[k * sz + j]? = (f x)[j]? := by
 intro l
 induction l with
 | nil => intro k x j _ h; simp at h
 | cons y r ih =>
   intro k x j hs h hj
   have hy : (f y).length = sz := hs y (by simp)
   cases k with
   | zero =>
     simp only [List.getElem?_cons_zero, Option.some.injEq] at h
     subst h
     rw [List.flatMap_cons, List.getElem?_append_left (by omega)]
     simp
   | succ k =>
     simp only [List.getElem?_cons_succ] at h
     rw [List.flatMap_cons, List.getElem?_append_right (by rw [hy, Nat.succ_mul]; omega), hy]
     rw [show (k + 1) * sz + j - sz = k * sz + j from by rw [Nat.succ_mul]; omega]
     exact ih k x j (fun z hz => hs z (by simp [hz])) h hj
theorem flat_inv {α : Type} (f : α → List Value) (sz : Nat) : ∀ (l : List α) (m : Nat) (u : Value), (∀ y ∈ l, (f y).length = sz) → (l.flatMap f)[m]? = some u → ∃ k x j, l[k]? = some x ∧ (f x)[j]? = some u ∧ m = k * sz + j ∧ j < sz := by
 intro l
 induction l with
 | nil => intro m u _ h; simp at h
 | cons y r ih =>
   intro m u hs h
   have hy : (f y).length = sz := hs y (by simp)
   rw [List.flatMap_cons] at h
   by_cases hm : m < (f y).length
   · rw [List.getElem?_append_left hm] at h
     exact ⟨0, y, m, by simp, h, by omega, by omega⟩
   · rw [List.getElem?_append_right (by omega)] at h
     obtain ⟨k, x, j, h1, h2, h3, h4⟩ := ih _ u (fun z hz => hs z (by simp [hz])) h
     exact ⟨k + 1, x, j, by simpa using h1, h2, by rw [Nat.succ_mul]; omega, h4⟩
theorem flat_len {α : Type} (f : α → List Value) (sz : Nat) (l : List α) (h : ∀ y ∈ l, (f y).length = sz) : (l.flatMap f).length = l.length * sz := by
 induction l with
 | nil => simp
 | cons y r ih => rw [List.flatMap_cons, List.length_append, ih (fun z hz => h z (by simp [hz])), h y (by simp), List.length_cons, Nat.succ_mul]; omega
section
variable {H : Type} {enc : TypeId × Value → H} {P : Program} {w : World} {base : Nat} {spare : Nat → Bool} {held : Bool}
theorem trod_sl {t e : TypeId} {sz n : Nat} {cs : List Value} {y : DataW H × List MemPlace} (E : List Value → Prop) (ht : P.underlying t = some (.slice e)) (hsz : P.cellsOf e = sz) (hs0 : 0 < sz)
 (hE : ∀ m c y, DataW.trod enc P w base spare held m e c = some y → c.length = sz → E c) (h : DataW.trod enc P w base spare held n t cs = some y) :
 ∃ (A : Option Addr) (len cap : Nat) (L : List (List Value)), cs = [.slice A len cap] ∧ len ≤ cap ∧ cap ≤ maxLen ∧ L.length = len ∧ (∀ c ∈ L, E c ∧ c.length = sz) ∧ Reads w w.heap.size sz A len (L.flatMap id) := by
 rcases DataW.trod_slice ht h with ⟨rfl, _⟩ | ⟨a, len, cap, elems, rest, m, _, rfl, _, hb, hl, hc, hlen, hel, _, _⟩
 · exact ⟨none, 0, 0, [], rfl, Nat.le_refl _, by simp, rfl, by simp, Reads.none_⟩
 · rw [hsz] at hel
   have hrow : ∀ i, i < len → ∃ c y, w.cells? base (a.add (i * sz)) sz = some c ∧ DataW.trod enc P w base spare held m e c = some y := by
    intro i hi
    have h1 := hel i hi
    rw [List.getElem?_eq_getElem (by omega)] at h1
    obtain ⟨c, hc1, hc2⟩ := Option.bind_eq_some_iff.1 h1
    exact ⟨c, _, hc1, hc2⟩
   let g : Nat → List Value := fun i => (w.cells? base (a.add (i * sz)) sz).getD []
   have hg : ∀ i, i < len → ∃ y, w.cells? base (a.add (i * sz)) sz = some (g i) ∧ DataW.trod enc P w base spare held m e (g i) = some y := by
    intro i hi
    obtain ⟨c, y, h1, h2⟩ := hrow i hi
    have : g i = c := by simp only [g, h1, Option.getD_some]
    rw [this]
    exact ⟨y, h1, h2⟩
   have hmem : ∀ c ∈ (List.range len).map g, E c ∧ c.length = sz := by
    intro c hcm
    obtain ⟨i, hi, rfl⟩ := List.mem_map.1 hcm
    obtain ⟨y, h1, h2⟩ := hg i (by simpa using hi)
    have hlen := (World.cells?_some h1).2.1
    exact ⟨hE m _ y h2 hlen, hlen⟩
   have hu : ∀ c ∈ (List.range len).map g, (id c).length = sz := fun c hc => (hmem c hc).2
   refine ⟨some a, len, cap, (List.range len).map g, rfl, hl, hc, by simp, hmem, by rw [flat_len id sz _ hu]; simp, fun hpos => ⟨a, rfl, ?_, ?_⟩⟩
   · obtain ⟨y, h1, h2⟩ := hg 0 hpos
     obtain ⟨_, hl0, hcl⟩ := World.cells?_some h1
     have h3 := hcl 0 hs0
     rw [List.getElem?_eq_getElem (by omega)] at h3
     have := cell_block h3
     simpa [block_of_add] using this
   · intro j u hj
     obtain ⟨k, x, r, h1, h2, rfl, h4⟩ := flat_inv id sz _ j u hu hj
     have hk : k < len := by have := lt_of_at h1; simpa using this
     have hx : x = g k := by
      rw [List.getElem?_map, List.getElem?_range hk] at h1
      simpa using h1.symm
     subst hx
     obtain ⟨y, h5, _⟩ := hg k hk
     have h6 := (World.cells?_some h5).2.2 r h4
     rw [add_of_add] at h6
     rw [h6]
     exact h2
end
theorem field_add (ad : Addr) (m j : Nat) (hj : 0 < j) : (⟨(ad.add m).block, (ad.add m).off + j, none⟩ : Addr) = ad.add (m + j) := by
 unfold Addr.add
 by_cases h : m = 0
 · subst h; simp; omega
 · have : m + j ≠ 0 := by omega
   simp [h]; omega
section
variable {H : Type} {enc : TypeId × Value → H} {P : Program} {w : World} {base : Nat} {spare : Nat → Bool} {held : Bool}
end
end
end Go.Proofs.YtebobcbaloddaaaGreat
namespace Go.Proofs.YtebobcbaloddaaaGreat
section
set_option linter.unusedSimpArgs false
set_option linter.unusedVariables false
open Go.RowKit Go.ChangeShapes Go.WideShapes Go.Deep
section
variable {H : Type} {enc : TypeId × Value → H} {P : Program} {w : World} {base : Nat} {spare : Nat → Bool} {held : Bool}
end
end
end Go.Proofs.YtebobcbaloddaaaGreat
namespace Go.Proofs.YtebobcbaloddaaaGreat
section
set_option linter.unusedSimpArgs false
set_option linter.unusedVariables false
open Go.RowKit Go.ChangeShapes Go.WideShapes Go.Deep
structure En where
 s : ByteArray
 p : Int
 q : Int
def En.cells (e : En) : List Value := [.string e.s, .int .u32 e.p, .int .u16 e.q]
def En.ok (e : En) : Prop := e.s.size ≤ maxLen ∧ (0 ≤ e.p ∧ e.p ≤ 4294967295) ∧ (0 ≤ e.q ∧ e.q ≤ 65535)
def vE (l : List En) : List Value := l.flatMap En.cells
theorem En.len (e : En) : e.cells.length = 3 := rfl
theorem vE_len (l : List En) : (vE l).length = l.length * 3 := flat_len _ 3 l fun v _ => v.len
theorem vE_at {l : List En} {k : Nat} {v : En} (h : l[k]? = some v) (j : Nat) (hj : j < 3) : (vE l)[k * 3 + j]? = v.cells[j]? := flat_at En.cells 3 l k v j (fun v _ => v.len) h hj
theorem Reads.ent {w : World} {B : Nat} {A : Option Addr} {n k : Nat} {l : List En} (hr : Reads w B 3 A n (vE l)) (hk : k < n) :
 ∃ ad v, A = some ad ∧ ad.block < B ∧ l[k]? = some v ∧ w.cell? (ad.add (k * 3)) = some (.string v.s) ∧ w.cell? ⟨(ad.add (k * 3)).block, (ad.add (k * 3)).off + 1, none⟩ = some (.int .u32 v.p) ∧ w.cell? ⟨(ad.add (k * 3)).block, (ad.add (k * 3)).off + 2, none⟩ = some (.int .u16 v.q) := by
 have hl : l.length = n := by have := hr.1; rw [vE_len] at this; omega
 obtain ⟨ad, hA, hb, hc⟩ := hr.2 (by omega)
 have hv : l[k]? = some (l[k]'(by omega)) := List.getElem?_eq_getElem (by omega)
 refine ⟨ad, l[k]'(by omega), hA, hb, hv, ?_, ?_, ?_⟩
 · have := hc (k * 3 + 0) _ (by rw [vE_at hv 0 (by omega)]; rfl)
   simpa using this
 · rw [field_add _ _ _ (by omega)]
   exact hc (k * 3 + 1) _ (by rw [vE_at hv 1 (by omega)]; rfl)
 · rw [field_add _ _ _ (by omega)]
   exact hc (k * 3 + 2) _ (by rw [vE_at hv 2 (by omega)]; rfl)
section
variable {H : Type} {enc : TypeId × Value → H} {P : Program} {w : World} {base : Nat} {spare : Nat → Bool} {held : Bool}
theorem trod_ent {t tk tr tp tq : TypeId} {fs gs : Array Field} {n : Nat} {cs : List Value} {y : DataW H × List MemPlace} (ht : P.underlying t = some (.struct fs)) (hC : P.cellsOf t = 3) (hf : fs.toList.map (fun f => (f.type, f.offset)) = [(tk, 0), (tr, 1)])
 (hk : P.underlying tk = some .string) (hck : P.cellsOf tk = 1) (hr : P.underlying tr = some (.struct gs)) (hone : oneCellFields P gs = true) (hCr : P.cellsOf tr = 2) (hg : gs.toList.map (·.type) = [tp, tq])
 (hp : P.underlying tp = some (.int .u32)) (hq : P.underlying tq = some (.int .u16)) (h : DataW.trod enc P w base spare held n t cs = some y) :
 ∃ v : En, cs = v.cells ∧ v.ok := by
 obtain ⟨xs, m, _, _, hlen, hxl, hfd⟩ := DataW.trod_struct ht h
 rw [hC] at hlen
 match cs, hlen with
 | [c0, c1, c2], _ =>
   have hfs : fs.size = 2 := by have := congrArg List.length hf; simpa using this
   have hgs : gs.size = 2 := by have := congrArg List.length hg; simpa using this
   obtain ⟨l⟩ := fs
   obtain ⟨l2⟩ := gs
   match l, hfs, hf with
   | [f0, f1], _, hf =>
     simp only [List.map_cons, List.map_nil, List.cons.injEq, Prod.mk.injEq, and_true] at hf
     obtain ⟨⟨rfl, o0⟩, ⟨rfl, o1⟩⟩ := hf
     match l2, hgs, hg with
     | [g0, g1], _, hg =>
       simp only [List.map_cons, List.map_nil, List.cons.injEq, and_true] at hg
       obtain ⟨rfl, rfl⟩ := hg
       match xs, hxl with
       | [y0, y1], _ =>
         have e0 := hfd 0 f0 rfl
         have e1 := hfd 1 f1 rfl
         rw [o0, hck] at e0
         rw [o1, hCr] at e1
         obtain ⟨s, hs', _, ws⟩ := DataW.trod_string hk e0
         obtain ⟨xs2, m2, _, _, hlen2, hxl2, hfd2⟩ := DataW.trod_struct hr e1
         match xs2, hxl2 with
         | [z0, z1], _ =>
           obtain ⟨p0, j0⟩ := hone_of hone 0 g0 rfl
           obtain ⟨p1, j1⟩ := hone_of hone 1 g1 rfl
           have d0 := hfd2 0 g0 rfl
           have d1 := hfd2 1 g1 rfl
           rw [p0, j0] at d0
           rw [p1, j1] at d1
           obtain ⟨a, ha, _, wa⟩ := DataW.trod_int hp d0
           obtain ⟨b, hb, _, wb⟩ := DataW.trod_int hq d1
           simp at ha hb hs'
           subst ha; subst hb; subst hs'
           exact ⟨⟨s, a, b⟩, rfl, ws, Go.bounds_u32 wa, Go.bounds_u16 wb⟩
theorem trod_ents {t e tk tr tp tq : TypeId} {fs gs : Array Field} {n : Nat} {cs : List Value} {y : DataW H × List MemPlace} (ht : P.underlying t = some (.slice e)) (he : P.underlying e = some (.struct fs)) (hC : P.cellsOf e = 3) (hf : fs.toList.map (fun f => (f.type, f.offset)) = [(tk, 0), (tr, 1)])
 (hk : P.underlying tk = some .string) (hck : P.cellsOf tk = 1) (hr : P.underlying tr = some (.struct gs)) (hone : oneCellFields P gs = true) (hCr : P.cellsOf tr = 2) (hg : gs.toList.map (·.type) = [tp, tq])
 (hp : P.underlying tp = some (.int .u32)) (hq : P.underlying tq = some (.int .u16)) (h : DataW.trod enc P w base spare held n t cs = some y) :
 ∃ (A : Option Addr) (len cap : Nat) (l : List En), cs = [.slice A len cap] ∧ len ≤ cap ∧ cap ≤ maxLen ∧ l.length = len ∧ (∀ v ∈ l, v.ok) ∧ Reads w w.heap.size 3 A len (vE l) := by
 obtain ⟨A, len, cap, L, rfl, h1, h2, h3, h4, h5⟩ := trod_sl (fun c => ∃ v : En, c = v.cells ∧ v.ok) ht hC (by omega) (fun m c y hc _ => trod_ent he hC hf hk hck hr hone hCr hg hp hq hc) h
 have hex : ∀ (L : List (List Value)), (∀ c ∈ L, ∃ v : En, c = v.cells ∧ v.ok) → ∃ l : List En, L = l.map En.cells ∧ ∀ v ∈ l, v.ok := by
  intro L
  induction L with
  | nil => intro _; exact ⟨[], rfl, by simp⟩
  | cons c r ih =>
    intro hL
    obtain ⟨v, rfl, hv⟩ := hL c (by simp)
    obtain ⟨l, rfl, hl⟩ := ih fun c hc => hL c (by simp [hc])
    exact ⟨v :: l, rfl, by intro u hu; rcases List.mem_cons.1 hu with rfl | hu; exact hv; exact hl u hu⟩
 obtain ⟨l, rfl, hl⟩ := hex L fun c hc => (h4 c hc).1
 refine ⟨A, len, cap, l, rfl, h1, h2, by simpa using h3, hl, ?_⟩
 have : (l.map En.cells).flatMap id = vE l := by unfold vE; rw [List.flatMap_map]; rfl
 rwa [this] at h5
end
end
end Go.Proofs.YtebobcbaloddaaaGreat
