/-
  Several texts in one: Ag Fa.
-/
import Derived.Test.YtgndebdoljnheaaGreatDoorMeae
import Derived.Test.YtgndebdoljnheaaGreatDoorProg
/-
  A value of three cells in a block of its own: its cells and marks, carried behind calls and new blocks.
-/
namespace Go.Proofs.YtgndebdoljnheaaGreatDoor
section
set_option linter.unusedSimpArgs false
set_option linter.unusedVariables false
open Go.RowKit

/-- Block b holds a value's three cells, and they may be written. -/
def At3 (w : World) (b : Nat) (k i : Int) (s : ByteArray) : Prop :=
  w.cell? ⟨b, 0, none⟩ = some (.int .u8 k) ∧ w.cell? ⟨b, 1, none⟩ = some (.int .i64 i) ∧ w.cell? ⟨b, 2, none⟩ = some (.string s) ∧
  w.frozen? ⟨b, 0, none⟩ = false ∧ w.frozen? ⟨b, 1, none⟩ = false ∧ w.frozen? ⟨b, 2, none⟩ = false
section
variable {w w' : World} {B b : Nat} {k i : Int} {s : ByteArray}
theorem At3.below (h : At3 w b k i s) (hb : Below B w w') (hB : b < B) : At3 w' b k i s := by
  obtain ⟨h0, h1, h2, h3, h4, h5⟩ := h
  exact ⟨(hb.cell (p := ⟨b, 0, none⟩) hB).trans h0, (hb.cell (p := ⟨b, 1, none⟩) hB).trans h1, (hb.cell (p := ⟨b, 2, none⟩) hB).trans h2,
    (hb.frozen (p := ⟨b, 0, none⟩) hB).trans h3, (hb.frozen (p := ⟨b, 1, none⟩) hB).trans h4, (hb.frozen (p := ⟨b, 2, none⟩) hB).trans h5⟩
theorem At3.lt (h : At3 w b k i s) : b < w.heap.size := cell_block h.1
theorem At3.below0 (h : At3 w b k i s) (hb : Below w.heap.size w w') : At3 w' b k i s := h.below hb h.lt
theorem At3.alloc (h : At3 w b k i s) (o : Obj) : At3 (w.alloc o) b k i s := h.below0 ((Below.refl _ w).alloc (Nat.le_refl _) o)
theorem At3.new (w : World) (k i : Int) (s : ByteArray) (e : TypeId) : At3 (w.alloc (.cells #[.int .u8 k, .int .i64 i, .string s] e)) w.heap.size k i s := by
  refine ⟨?_, ?_, ?_, ?_, ?_, ?_⟩
  · rw [World.cell?_alloc_at _ _ _ _ rfl]; rfl
  · rw [World.cell?_alloc_at _ _ _ _ rfl]; rfl
  · rw [World.cell?_alloc_at _ _ _ _ rfl]; rfl
  all_goals exact World.frozen?_alloc_new _ _ _ _
end
end
end Go.Proofs.YtgndebdoljnheaaGreatDoor
/-
  A book: its tables, their columns, its indexes; as they lie in memory, and as they come in.
-/
namespace Go.Proofs.YtgndebdoljnheaaGreatDoor
section
set_option linter.unusedSimpArgs false
set_option linter.unusedVariables false
open Go.RowKit Go.ChangeShapes Go.WideShapes Go.Deep

structure Cl where
  nm : ByteArray
  k : Int
  d : Int
  u : Int
def Cl.cells (c : Cl) : List Value := [.string c.nm, .int .u8 c.k, .int .i64 c.d, .int .i64 c.u]
def Cl.ok (c : Cl) : Prop := c.nm.size ≤ maxLen ∧ (0 ≤ c.k ∧ c.k ≤ 255)
structure Tb where
  nm : ByteArray
  A : Option Addr
  n : Nat
  c : Nat
  f : Int
  r : Int
  p : Int
  cols : List Cl
def Tb.cells (t : Tb) : List Value := [.string t.nm, .slice t.A t.n t.c, .int .u32 t.f, .int .i64 t.r, .int .i64 t.p]
structure Ix where
  nm : ByteArray
  tb : Int
  A : Option Addr
  n : Nat
  c : Nat
  root : Int
  lv : Int
  hi : Int
  B : Option Addr
  m : Nat
  e : Nat
  cs : List Int
  ds : List Int
def Ix.cells (x : Ix) : List Value := [.string x.nm, .int .i64 x.tb, .slice x.A x.n x.c, .int .u32 x.root, .int .i64 x.lv, .int .i64 x.hi, .slice x.B x.m x.e]
def Ix.ok (x : Ix) : Prop := x.nm.size ≤ maxLen ∧ (x.n ≤ x.c ∧ x.c ≤ maxLen) ∧ (x.m ≤ x.e ∧ x.e ≤ maxLen)
def vC (l : List Cl) : List Value := l.flatMap Cl.cells
def vTb (l : List Tb) : List Value := l.flatMap Tb.cells
def vIx (l : List Ix) : List Value := l.flatMap Ix.cells
def TbIn (w : World) (B : Nat) (t : Tb) : Prop := t.nm.size ≤ maxLen ∧ (t.n ≤ t.c ∧ t.c ≤ maxLen) ∧ Reads w B 4 t.A t.n (vC t.cols) ∧ ∀ c ∈ t.cols, c.ok
def TbOk (w : World) (B : Nat) (t : Tb) : Prop := TbIn w B t ∧ (0 ≤ t.f ∧ t.f ≤ 4294967295)
def IxIn (w : World) (B : Nat) (x : Ix) : Prop := x.ok ∧ Reads w B 1 x.A x.n (vI64 x.cs) ∧ Reads w B 1 x.B x.m (vI64 x.ds) ∧ (0 ≤ x.root ∧ x.root ≤ 4294967295)
theorem IxIn.under {w w' : World} {B : Nat} {x : Ix} (h : IxIn w B x) (hb : Below B w w') : IxIn w' B x := ⟨h.1, h.2.1.below hb, h.2.2.1.below hb, h.2.2.2⟩
theorem TbIn.under {w w' : World} {B : Nat} {t : Tb} (h : TbIn w B t) (hb : Below B w w') : TbIn w' B t := ⟨h.1, h.2.1, h.2.2.1.below hb, h.2.2.2⟩

theorem Cl.len (e : Cl) : e.cells.length = 4 := rfl
theorem vC_len (l : List Cl) : (vC l).length = l.length * 4 := flat_len _ 4 l fun v _ => v.len
theorem vC_at {l : List Cl} {k : Nat} {v : Cl} (h : l[k]? = some v) (j : Nat) (hj : j < 4) : (vC l)[k * 4 + j]? = v.cells[j]? := flat_at Cl.cells 4 l k v j (fun v _ => v.len) h hj
theorem Reads.cl_ {w : World} {B : Nat} {A : Option Addr} {n k : Nat} {l : List Cl} (hr : Reads w B 4 A n (vC l)) (hk : k < n) :
    ∃ ad v, A = some ad ∧ ad.block < B ∧ l[k]? = some v ∧ w.cell? (ad.add (k * 4)) = some (.string v.nm) ∧ w.cell? ⟨(ad.add (k * 4)).block, (ad.add (k * 4)).off + 1, none⟩ = some (.int .u8 v.k) ∧ w.cell? ⟨(ad.add (k * 4)).block, (ad.add (k * 4)).off + 2, none⟩ = some (.int .i64 v.d) ∧ w.cell? ⟨(ad.add (k * 4)).block, (ad.add (k * 4)).off + 3, none⟩ = some (.int .i64 v.u) := by
  have hl : l.length = n := by have := hr.1; rw [vC_len] at this; omega
  obtain ⟨ad, hA, hb, hc⟩ := hr.2 (by omega)
  have hv : l[k]? = some (l[k]'(by omega)) := List.getElem?_eq_getElem (by omega)
  refine ⟨ad, l[k]'(by omega), hA, hb, hv, ?_, ?_, ?_, ?_⟩
  · have := hc (k * 4 + 0) _ (by rw [vC_at hv 0 (by omega)]; rfl)
    simpa using this
  · rw [field_add _ _ _ (by omega)]
    exact hc (k * 4 + 1) _ (by rw [vC_at hv 1 (by omega)]; rfl)
  · rw [field_add _ _ _ (by omega)]
    exact hc (k * 4 + 2) _ (by rw [vC_at hv 2 (by omega)]; rfl)
  · rw [field_add _ _ _ (by omega)]
    exact hc (k * 4 + 3) _ (by rw [vC_at hv 3 (by omega)]; rfl)
theorem Tb.len (e : Tb) : e.cells.length = 5 := rfl
theorem vTb_len (l : List Tb) : (vTb l).length = l.length * 5 := flat_len _ 5 l fun v _ => v.len
theorem vTb_at {l : List Tb} {k : Nat} {v : Tb} (h : l[k]? = some v) (j : Nat) (hj : j < 5) : (vTb l)[k * 5 + j]? = v.cells[j]? := flat_at Tb.cells 5 l k v j (fun v _ => v.len) h hj
theorem Reads.tb_ {w : World} {B : Nat} {A : Option Addr} {n k : Nat} {l : List Tb} (hr : Reads w B 5 A n (vTb l)) (hk : k < n) :
    ∃ ad v, A = some ad ∧ ad.block < B ∧ l[k]? = some v ∧ w.cell? (ad.add (k * 5)) = some (.string v.nm) ∧ w.cell? ⟨(ad.add (k * 5)).block, (ad.add (k * 5)).off + 1, none⟩ = some (.slice v.A v.n v.c) ∧ w.cell? ⟨(ad.add (k * 5)).block, (ad.add (k * 5)).off + 2, none⟩ = some (.int .u32 v.f) ∧ w.cell? ⟨(ad.add (k * 5)).block, (ad.add (k * 5)).off + 3, none⟩ = some (.int .i64 v.r) ∧ w.cell? ⟨(ad.add (k * 5)).block, (ad.add (k * 5)).off + 4, none⟩ = some (.int .i64 v.p) := by
  have hl : l.length = n := by have := hr.1; rw [vTb_len] at this; omega
  obtain ⟨ad, hA, hb, hc⟩ := hr.2 (by omega)
  have hv : l[k]? = some (l[k]'(by omega)) := List.getElem?_eq_getElem (by omega)
  refine ⟨ad, l[k]'(by omega), hA, hb, hv, ?_, ?_, ?_, ?_, ?_⟩
  · have := hc (k * 5 + 0) _ (by rw [vTb_at hv 0 (by omega)]; rfl)
    simpa using this
  · rw [field_add _ _ _ (by omega)]
    exact hc (k * 5 + 1) _ (by rw [vTb_at hv 1 (by omega)]; rfl)
  · rw [field_add _ _ _ (by omega)]
    exact hc (k * 5 + 2) _ (by rw [vTb_at hv 2 (by omega)]; rfl)
  · rw [field_add _ _ _ (by omega)]
    exact hc (k * 5 + 3) _ (by rw [vTb_at hv 3 (by omega)]; rfl)
  · rw [field_add _ _ _ (by omega)]
    exact hc (k * 5 + 4) _ (by rw [vTb_at hv 4 (by omega)]; rfl)
theorem Ix.len (e : Ix) : e.cells.length = 7 := rfl
theorem vIx_len (l : List Ix) : (vIx l).length = l.length * 7 := flat_len _ 7 l fun v _ => v.len
theorem vIx_at {l : List Ix} {k : Nat} {v : Ix} (h : l[k]? = some v) (j : Nat) (hj : j < 7) : (vIx l)[k * 7 + j]? = v.cells[j]? := flat_at Ix.cells 7 l k v j (fun v _ => v.len) h hj
theorem Reads.ix_ {w : World} {B : Nat} {A : Option Addr} {n k : Nat} {l : List Ix} (hr : Reads w B 7 A n (vIx l)) (hk : k < n) :
    ∃ ad v, A = some ad ∧ ad.block < B ∧ l[k]? = some v ∧ w.cell? (ad.add (k * 7)) = some (.string v.nm) ∧ w.cell? ⟨(ad.add (k * 7)).block, (ad.add (k * 7)).off + 1, none⟩ = some (.int .i64 v.tb) ∧ w.cell? ⟨(ad.add (k * 7)).block, (ad.add (k * 7)).off + 2, none⟩ = some (.slice v.A v.n v.c) ∧ w.cell? ⟨(ad.add (k * 7)).block, (ad.add (k * 7)).off + 3, none⟩ = some (.int .u32 v.root) ∧ w.cell? ⟨(ad.add (k * 7)).block, (ad.add (k * 7)).off + 4, none⟩ = some (.int .i64 v.lv) ∧ w.cell? ⟨(ad.add (k * 7)).block, (ad.add (k * 7)).off + 5, none⟩ = some (.int .i64 v.hi) ∧ w.cell? ⟨(ad.add (k * 7)).block, (ad.add (k * 7)).off + 6, none⟩ = some (.slice v.B v.m v.e) := by
  have hl : l.length = n := by have := hr.1; rw [vIx_len] at this; omega
  obtain ⟨ad, hA, hb, hc⟩ := hr.2 (by omega)
  have hv : l[k]? = some (l[k]'(by omega)) := List.getElem?_eq_getElem (by omega)
  refine ⟨ad, l[k]'(by omega), hA, hb, hv, ?_, ?_, ?_, ?_, ?_, ?_, ?_⟩
  · have := hc (k * 7 + 0) _ (by rw [vIx_at hv 0 (by omega)]; rfl)
    simpa using this
  · rw [field_add _ _ _ (by omega)]
    exact hc (k * 7 + 1) _ (by rw [vIx_at hv 1 (by omega)]; rfl)
  · rw [field_add _ _ _ (by omega)]
    exact hc (k * 7 + 2) _ (by rw [vIx_at hv 2 (by omega)]; rfl)
  · rw [field_add _ _ _ (by omega)]
    exact hc (k * 7 + 3) _ (by rw [vIx_at hv 3 (by omega)]; rfl)
  · rw [field_add _ _ _ (by omega)]
    exact hc (k * 7 + 4) _ (by rw [vIx_at hv 4 (by omega)]; rfl)
  · rw [field_add _ _ _ (by omega)]
    exact hc (k * 7 + 5) _ (by rw [vIx_at hv 5 (by omega)]; rfl)
  · rw [field_add _ _ _ (by omega)]
    exact hc (k * 7 + 6) _ (by rw [vIx_at hv 6 (by omega)]; rfl)

section
variable {H : Type} {enc : TypeId × Value → H} {P : Program} {w : World} {base : Nat} {spare : Nat → Bool} {held : Bool}
theorem ex_of {α : Type} (f : α → List Value) (Q : α → Prop) : ∀ (L : List (List Value)), (∀ c ∈ L, ∃ v : α, c = f v ∧ Q v) → ∃ l : List α, L = l.map f ∧ ∀ v ∈ l, Q v := by
  intro L
  induction L with
  | nil => intro _; exact ⟨[], rfl, by simp⟩
  | cons c r ih =>
    intro hL
    obtain ⟨v, rfl, hv⟩ := hL c (by simp)
    obtain ⟨l, rfl, hl⟩ := ih fun c hc => hL c (by simp [hc])
    exact ⟨v :: l, rfl, by intro u hu; rcases List.mem_cons.1 hu with rfl | hu; exact hv; exact hl u hu⟩
/-- The struct types of a book, as their fields stand. -/
structure BkTy (P : Program) (tb : TypeId) where
  fb : Array Field
  ft : Array Field
  fc : Array Field
  fx : Array Field
  tts : TypeId
  txs : TypeId
  tt : TypeId
  tx : TypeId
  tcs : TypeId
  tc : TypeId
  ts : TypeId
  tk : TypeId
  ti : TypeId
  tu : TypeId
  tis : TypeId
  hb : P.underlying tb = some (.struct fb)
  hbC : P.cellsOf tb = 2
  hbf : fb.toList.map (fun f => (f.type, f.offset)) = [(tts, 0), (txs, 1)]
  htt : P.underlying tt = some (.struct ft)
  htC : P.cellsOf tt = 5
  htf : ft.toList.map (fun f => (f.type, f.offset)) = [(ts, 0), (tcs, 1), (tu, 2), (ti, 3), (ti, 4)]
  hc : P.underlying tc = some (.struct fc)
  hcC : P.cellsOf tc = 4
  hcf : fc.toList.map (fun f => (f.type, f.offset)) = [(ts, 0), (tk, 1), (ti, 2), (ti, 3)]
  hx : P.underlying tx = some (.struct fx)
  hxC : P.cellsOf tx = 7
  hxf : fx.toList.map (fun f => (f.type, f.offset)) = [(ts, 0), (ti, 1), (tis, 2), (tu, 3), (ti, 4), (ti, 5), (tis, 6)]
  hts : P.underlying tts = some (.slice tt) ∧ P.cellsOf tts = 1
  hxs : P.underlying txs = some (.slice tx) ∧ P.cellsOf txs = 1
  hcs : P.underlying tcs = some (.slice tc) ∧ P.cellsOf tcs = 1
  hst : P.underlying ts = some .string ∧ P.cellsOf ts = 1
  hk : P.underlying tk = some (.int .u8) ∧ P.cellsOf tk = 1
  hi : P.underlying ti = some (.int .i64) ∧ P.cellsOf ti = 1
  hu : P.underlying tu = some (.int .u32) ∧ P.cellsOf tu = 1
  his : P.underlying tis = some (.slice ti) ∧ P.cellsOf tis = 1

theorem trod_cl {tb : TypeId} (T : BkTy P tb) {n : Nat} {cs : List Value} {y : DataW H × List MemPlace} (h : DataW.trod enc P w base spare held n T.tc cs = some y) : ∃ v : Cl, cs = v.cells ∧ v.ok := by
  obtain ⟨xs, m, hm, _, hlen, hxl, hfd⟩ := DataW.trod_struct T.hc h
  have hf := T.hcf
  rw [T.hcC] at hlen
  generalize T.fc = fs at hf hxl hfd
  match cs, hlen with
  | [c0, c1, c2, c3], _ =>
    have hfs : fs.size = 4 := by have := congrArg List.length hf; simpa using this
    obtain ⟨l⟩ := fs
    match l, hfs, hf with
    | [f0, f1, f2, f3], _, hf =>
      simp only [List.map_cons, List.map_nil, List.cons.injEq, Prod.mk.injEq, and_true] at hf
      obtain ⟨⟨t0, o0⟩, ⟨t1, o1⟩, ⟨t2, o2⟩, ⟨t3, o3⟩⟩ := hf
      match xs, hxl with
      | [y0, y1, y2, y3], _ =>
        have e0 := hfd 0 f0 rfl
        have e1 := hfd 1 f1 rfl
        have e2 := hfd 2 f2 rfl
        have e3 := hfd 3 f3 rfl
        rw [o0, t0, T.hst.2] at e0
        rw [o1, t1, T.hk.2] at e1
        rw [o2, t2, T.hi.2] at e2
        rw [o3, t3, T.hi.2] at e3
        obtain ⟨a0, ha0, _, w0⟩ := DataW.trod_string T.hst.1 e0
        obtain ⟨a1, ha1, _, w1⟩ := DataW.trod_int T.hk.1 e1
        obtain ⟨a2, ha2, _, w2⟩ := DataW.trod_int T.hi.1 e2
        obtain ⟨a3, ha3, _, w3⟩ := DataW.trod_int T.hi.1 e3
        simp at ha0 ha1 ha2 ha3
        subst ha0; subst ha1; subst ha2; subst ha3
        exact ⟨⟨a0, a1, a2, a3⟩, rfl, w0, Go.bounds_u8 w1⟩
theorem trod_tb {tb : TypeId} (T : BkTy P tb) {n : Nat} {cs : List Value} {y : DataW H × List MemPlace} (h : DataW.trod enc P w base spare held n T.tt cs = some y) : ∃ v : Tb, cs = v.cells ∧ TbOk w w.heap.size v := by
  obtain ⟨xs, m, hm, _, hlen, hxl, hfd⟩ := DataW.trod_struct T.htt h
  have hf := T.htf
  rw [T.htC] at hlen
  generalize T.ft = fs at hf hxl hfd
  match cs, hlen with
  | [c0, c1, c2, c3, c4], _ =>
    have hfs : fs.size = 5 := by have := congrArg List.length hf; simpa using this
    obtain ⟨l⟩ := fs
    match l, hfs, hf with
    | [f0, f1, f2, f3, f4], _, hf =>
      simp only [List.map_cons, List.map_nil, List.cons.injEq, Prod.mk.injEq, and_true] at hf
      obtain ⟨⟨t0, o0⟩, ⟨t1, o1⟩, ⟨t2, o2⟩, ⟨t3, o3⟩, ⟨t4, o4⟩⟩ := hf
      match xs, hxl with
      | [y0, y1, y2, y3, y4], _ =>
        have e0 := hfd 0 f0 rfl
        have e1 := hfd 1 f1 rfl
        have e2 := hfd 2 f2 rfl
        have e3 := hfd 3 f3 rfl
        have e4 := hfd 4 f4 rfl
        rw [o0, t0, T.hst.2] at e0
        rw [o1, t1, T.hcs.2] at e1
        rw [o2, t2, T.hu.2] at e2
        rw [o3, t3, T.hi.2] at e3
        rw [o4, t4, T.hi.2] at e4
        obtain ⟨a0, ha0, _, w0⟩ := DataW.trod_string T.hst.1 e0
        obtain ⟨A1, n1, k1, L1, ha1, p1, q1, z1, h4_1, h5_1⟩ := trod_sl (fun c => ∃ v : Cl, c = v.cells ∧ Cl.ok v) T.hcs.1 T.hcC (by omega) (fun m c y hc _ => trod_cl T hc) e1
        obtain ⟨l1, rfl, hl1⟩ := ex_of Cl.cells (fun v => Cl.ok v) L1 fun c hc => (h4_1 c hc).1
        have hfl1 : (l1.map Cl.cells).flatMap id = vC l1 := by unfold vC; rw [List.flatMap_map]; rfl
        rw [hfl1] at h5_1
        obtain ⟨a2, ha2, _, w2⟩ := DataW.trod_int T.hu.1 e2
        obtain ⟨a3, ha3, _, w3⟩ := DataW.trod_int T.hi.1 e3
        obtain ⟨a4, ha4, _, w4⟩ := DataW.trod_int T.hi.1 e4
        simp at ha0 ha1 ha2 ha3 ha4
        subst ha0; subst ha1; subst ha2; subst ha3; subst ha4
        exact ⟨⟨a0, A1, n1, k1, a2, a3, a4, l1⟩, rfl, ⟨w0, ⟨p1, q1⟩, h5_1, hl1⟩, Go.bounds_u32 w2⟩
theorem trod_ix {tb : TypeId} (T : BkTy P tb) {n : Nat} {cs : List Value} {y : DataW H × List MemPlace} (h : DataW.trod enc P w base spare held n T.tx cs = some y) : ∃ v : Ix, cs = v.cells ∧ IxIn w w.heap.size v := by
  obtain ⟨xs, m, hm, _, hlen, hxl, hfd⟩ := DataW.trod_struct T.hx h
  have hf := T.hxf
  rw [T.hxC] at hlen
  generalize T.fx = fs at hf hxl hfd
  match cs, hlen with
  | [c0, c1, c2, c3, c4, c5, c6], _ =>
    have hfs : fs.size = 7 := by have := congrArg List.length hf; simpa using this
    obtain ⟨l⟩ := fs
    match l, hfs, hf with
    | [f0, f1, f2, f3, f4, f5, f6], _, hf =>
      simp only [List.map_cons, List.map_nil, List.cons.injEq, Prod.mk.injEq, and_true] at hf
      obtain ⟨⟨t0, o0⟩, ⟨t1, o1⟩, ⟨t2, o2⟩, ⟨t3, o3⟩, ⟨t4, o4⟩, ⟨t5, o5⟩, ⟨t6, o6⟩⟩ := hf
      match xs, hxl with
      | [y0, y1, y2, y3, y4, y5, y6], _ =>
        have e0 := hfd 0 f0 rfl
        have e1 := hfd 1 f1 rfl
        have e2 := hfd 2 f2 rfl
        have e3 := hfd 3 f3 rfl
        have e4 := hfd 4 f4 rfl
        have e5 := hfd 5 f5 rfl
        have e6 := hfd 6 f6 rfl
        rw [o0, t0, T.hst.2] at e0
        rw [o1, t1, T.hi.2] at e1
        rw [o2, t2, T.his.2] at e2
        rw [o3, t3, T.hu.2] at e3
        rw [o4, t4, T.hi.2] at e4
        rw [o5, t5, T.hi.2] at e5
        rw [o6, t6, T.his.2] at e6
        obtain ⟨a0, ha0, _, w0⟩ := DataW.trod_string T.hst.1 e0
        obtain ⟨a1, ha1, _, w1⟩ := DataW.trod_int T.hi.1 e1
        obtain ⟨A2, n2, k2, L2, ha2, p2, q2, _, _, z2⟩ := trod_ints T.his.1 T.hi.1 T.hi.2 e2
        obtain ⟨a3, ha3, _, w3⟩ := DataW.trod_int T.hu.1 e3
        obtain ⟨a4, ha4, _, w4⟩ := DataW.trod_int T.hi.1 e4
        obtain ⟨a5, ha5, _, w5⟩ := DataW.trod_int T.hi.1 e5
        obtain ⟨A6, n6, k6, L6, ha6, p6, q6, _, _, z6⟩ := trod_ints T.his.1 T.hi.1 T.hi.2 e6
        simp at ha0 ha1 ha2 ha3 ha4 ha5 ha6
        subst ha0; subst ha1; subst ha2; subst ha3; subst ha4; subst ha5; subst ha6
        exact ⟨⟨a0, a1, A2, n2, k2, a3, a4, a5, A6, n6, k6, L2, L6⟩, rfl, ⟨w0, ⟨p2, q2⟩, ⟨p6, q6⟩⟩, z2, z6, Go.bounds_u32 w3⟩
theorem trod_book {tb : TypeId} (T : BkTy P tb) {n : Nat} {cs : List Value} {y : DataW H × List MemPlace} (h : DataW.trod enc P w base spare held n tb cs = some y) : ∃ (A : Option Addr) (n c : Nat) (l : List Tb) (B : Option Addr) (m d : Nat) (r : List Ix), cs = [.slice A n c, .slice B m d] ∧ (n ≤ c ∧ c ≤ maxLen) ∧ (m ≤ d ∧ d ≤ maxLen) ∧ Reads w w.heap.size 5 A n (vTb l) ∧ (∀ t ∈ l, TbIn w w.heap.size t) ∧ Reads w w.heap.size 7 B m (vIx r) ∧ (∀ x ∈ r, x.ok) ∧ (∀ t ∈ l, 0 ≤ t.f ∧ t.f ≤ 4294967295) ∧ (∀ x ∈ r, IxIn w w.heap.size x) := by
  obtain ⟨xs, m, hm, _, hlen, hxl, hfd⟩ := DataW.trod_struct T.hb h
  have hf := T.hbf
  rw [T.hbC] at hlen
  generalize T.fb = fs at hf hxl hfd
  match cs, hlen with
  | [c0, c1], _ =>
    have hfs : fs.size = 2 := by have := congrArg List.length hf; simpa using this
    obtain ⟨l⟩ := fs
    match l, hfs, hf with
    | [f0, f1], _, hf =>
      simp only [List.map_cons, List.map_nil, List.cons.injEq, Prod.mk.injEq, and_true] at hf
      obtain ⟨⟨t0, o0⟩, ⟨t1, o1⟩⟩ := hf
      match xs, hxl with
      | [y0, y1], _ =>
        have e0 := hfd 0 f0 rfl
        have e1 := hfd 1 f1 rfl
        rw [o0, t0, T.hts.2] at e0
        rw [o1, t1, T.hxs.2] at e1
        obtain ⟨A0, n0, k0, L0, ha0, p0, q0, z0, h4_0, h5_0⟩ := trod_sl (fun c => ∃ v : Tb, c = v.cells ∧ TbOk w w.heap.size v) T.hts.1 T.htC (by omega) (fun m c y hc _ => trod_tb T hc) e0
        obtain ⟨l0, rfl, hl0⟩ := ex_of Tb.cells (fun v => TbOk w w.heap.size v) L0 fun c hc => (h4_0 c hc).1
        have hfl0 : (l0.map Tb.cells).flatMap id = vTb l0 := by unfold vTb; rw [List.flatMap_map]; rfl
        rw [hfl0] at h5_0
        obtain ⟨A1, n1, k1, L1, ha1, p1, q1, z1, h4_1, h5_1⟩ := trod_sl (fun c => ∃ v : Ix, c = v.cells ∧ IxIn w w.heap.size v) T.hxs.1 T.hxC (by omega) (fun m c y hc _ => trod_ix T hc) e1
        obtain ⟨l1, rfl, hl1⟩ := ex_of Ix.cells (fun v => IxIn w w.heap.size v) L1 fun c hc => (h4_1 c hc).1
        have hfl1 : (l1.map Ix.cells).flatMap id = vIx l1 := by unfold vIx; rw [List.flatMap_map]; rfl
        rw [hfl1] at h5_1
        simp at ha0 ha1
        subst ha0; subst ha1
        exact ⟨A0, n0, k0, l0, A1, n1, k1, l1, rfl, ⟨p0, q0⟩, ⟨p1, q1⟩, h5_0, fun t ht => (hl0 t ht).1, h5_1, fun x hx => (hl1 x hx).1, fun t ht => (hl0 t ht).2, hl1⟩
end
def Tryz.bkTy : BkTy Tryz.prog 60 := ⟨_, _, _, _, 25, 26, 79, 83, 77, 81, 9, 5, 3, 48, 30, Tryz.underlying60, by kernel_rfl, rfl, Tryz.underlying79, by kernel_rfl, rfl, Tryz.underlying81, by kernel_rfl, rfl, Tryz.underlying83, by kernel_rfl, rfl, ⟨Tryz.underlying25, by kernel_rfl⟩, ⟨Tryz.underlying26, by kernel_rfl⟩, ⟨Tryz.underlying77, by kernel_rfl⟩, ⟨Tryz.underlying9, by kernel_rfl⟩, ⟨Tryz.underlying5, by kernel_rfl⟩, ⟨Tryz.underlying3, by kernel_rfl⟩, ⟨Tryz.underlying48, by kernel_rfl⟩, ⟨Tryz.underlying30, by kernel_rfl⟩⟩
end
end Go.Proofs.YtgndebdoljnheaaGreatDoor
