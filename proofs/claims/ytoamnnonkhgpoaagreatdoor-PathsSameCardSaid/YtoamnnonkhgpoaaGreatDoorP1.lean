
/-
  Ranges and paths: as they lie in memory, and as they come in.
-/
import Derived.Test.YtoamnnonkhgpoaaGreatDoorFa
set_option linter.unusedSimpArgs false
set_option linter.unusedVariables false
namespace Go.Proofs.YtoamnnonkhgpoaaGreatDoor
open Go.RowKit Go.ChangeShapes Go.WideShapes Go.Deep

structure Rg where
  lo : ByteArray
  hi : ByteArray
  e : Bool
def Rg.cells (r : Rg) : List Value := [.string r.lo, .string r.hi, .bool r.e]
def Rg.ok (r : Rg) : Prop := r.lo.size ≤ maxLen ∧ r.hi.size ≤ maxLen
def vRg (l : List Rg) : List Value := l.flatMap Rg.cells
theorem Rg.len (e : Rg) : e.cells.length = 3 := rfl
theorem vRg_len (l : List Rg) : (vRg l).length = l.length * 3 := flat_len _ 3 l fun v _ => v.len
theorem vRg_at {l : List Rg} {k : Nat} {v : Rg} (h : l[k]? = some v) (j : Nat) (hj : j < 3) : (vRg l)[k * 3 + j]? = v.cells[j]? := flat_at Rg.cells 3 l k v j (fun v _ => v.len) h hj
theorem Reads.rg_ {w : World} {B : Nat} {A : Option Addr} {n k : Nat} {l : List Rg} (hr : Reads w B 3 A n (vRg l)) (hk : k < n) :
    ∃ ad v, A = some ad ∧ ad.block < B ∧ l[k]? = some v ∧ w.cell? (ad.add (k * 3)) = some (.string v.lo) ∧ w.cell? ⟨(ad.add (k * 3)).block, (ad.add (k * 3)).off + 1, none⟩ = some (.string v.hi) ∧ w.cell? ⟨(ad.add (k * 3)).block, (ad.add (k * 3)).off + 2, none⟩ = some (.bool v.e) := by
  have hl : l.length = n := by have := hr.1; rw [vRg_len] at this; omega
  obtain ⟨ad, hA, hb, hc⟩ := hr.2 (by omega)
  have hv : l[k]? = some (l[k]'(by omega)) := List.getElem?_eq_getElem (by omega)
  refine ⟨ad, l[k]'(by omega), hA, hb, hv, ?_, ?_, ?_⟩
  · have := hc (k * 3 + 0) _ (by rw [vRg_at hv 0 (by omega)]; rfl)
    simpa using this
  · rw [field_add _ _ _ (by omega)]
    exact hc (k * 3 + 1) _ (by rw [vRg_at hv 1 (by omega)]; rfl)
  · rw [field_add _ _ _ (by omega)]
    exact hc (k * 3 + 2) _ (by rw [vRg_at hv 2 (by omega)]; rfl)
/-- A path: what it has, and where it lies. -/
structure Pt where
  k : Int
  ix : Int
  RA : Option Addr
  rn : Nat
  rc : Nat
  CA : Option Addr
  cn : Nat
  cc : Nat
  ot : Int
  AA : Option Addr
  an : Nat
  ac : Nat
  MA : Option Addr
  mn : Nat
  mc : Nat
  rg : List Rg
  cs : List Int
  al : List Rg
  mo : List Int
@[reducible] def Pt.cells (p : Pt) : List Value := [.int .u8 p.k, .int .i64 p.ix, .slice p.RA p.rn p.rc, .slice p.CA p.cn p.cc, .int .i64 p.ot, .slice p.AA p.an p.ac, .slice p.MA p.mn p.mc]
@[reducible] def Pt.agg (p : Pt) : Value := .agg #[.int .u8 p.k, .int .i64 p.ix, .slice p.RA p.rn p.rc, .slice p.CA p.cn p.cc, .int .i64 p.ot, .slice p.AA p.an p.ac, .slice p.MA p.mn p.mc]
structure PtIn (w : World) (B : Nat) (p : Pt) : Prop where
  k : 0 ≤ p.k ∧ p.k ≤ 255
  ix : -9223372036854775808 ≤ p.ix ∧ p.ix ≤ 9223372036854775807
  ot : -9223372036854775808 ≤ p.ot ∧ p.ot ≤ 9223372036854775807
  rg : Reads w B 3 p.RA p.rn (vRg p.rg)
  cs : Reads w B 1 p.CA p.cn (vI64 p.cs)
  al : Reads w B 3 p.AA p.an (vRg p.al)
  mo : Reads w B 1 p.MA p.mn (vI64 p.mo)
  rn : p.rn ≤ p.rc ∧ p.rc ≤ maxLen
  cn : p.cn ≤ p.cc ∧ p.cc ≤ maxLen
  an : p.an ≤ p.ac ∧ p.ac ≤ maxLen
  mn : p.mn ≤ p.mc ∧ p.mc ≤ maxLen
theorem PtIn.below {w w' : World} {p : Pt} (h : PtIn w w.heap.size p) (hb : Below w.heap.size w w') : PtIn w' w'.heap.size p :=
  ⟨h.k, h.ix, h.ot, (h.rg.below hb).more hb.size, (h.cs.below hb).more hb.size, (h.al.below hb).more hb.size, (h.mo.below hb).more hb.size, h.rn, h.cn, h.an, h.mn⟩

section
variable {H : Type} {enc : TypeId × Value → H} {P : Program} {w : World} {base : Nat} {spare : Nat → Bool} {held : Bool}
structure PtTy (P : Program) (tp : TypeId) where
  fp : Array Field
  fr : Array Field
  tk : TypeId
  ti : TypeId
  trs : TypeId
  tr : TypeId
  tis : TypeId
  ts : TypeId
  tb : TypeId
  hp : P.underlying tp = some (.struct fp)
  hpC : P.cellsOf tp = 7
  hpf : fp.toList.map (fun f => (f.type, f.offset)) = [(tk, 0), (ti, 1), (trs, 2), (tis, 3), (ti, 4), (trs, 5), (tis, 6)]
  hr : P.underlying tr = some (.struct fr)
  hrC : P.cellsOf tr = 3
  hrf : fr.toList.map (fun f => (f.type, f.offset)) = [(ts, 0), (ts, 1), (tb, 2)]
  hrs : P.underlying trs = some (.slice tr) ∧ P.cellsOf trs = 1
  his : P.underlying tis = some (.slice ti) ∧ P.cellsOf tis = 1
  hi : P.underlying ti = some (.int .i64) ∧ P.cellsOf ti = 1
  hk : P.underlying tk = some (.int .u8) ∧ P.cellsOf tk = 1
  hst : P.underlying ts = some .string ∧ P.cellsOf ts = 1
  hb : P.underlying tb = some .bool ∧ P.cellsOf tb = 1
theorem trod_rg {tp : TypeId} (T : PtTy P tp) {n : Nat} {cs : List Value} {y : DataW H × List MemPlace} (h : DataW.trod enc P w base spare held n T.tr cs = some y) : ∃ v : Rg, cs = v.cells ∧ v.ok := by
  obtain ⟨xs, m, hm, _, hlen, hxl, hfd⟩ := DataW.trod_struct T.hr h
  have hf := T.hrf
  rw [T.hrC] at hlen
  generalize T.fr = fs at hf hxl hfd
  match cs, hlen with
  | [c0, c1, c2], _ =>
    have hfs : fs.size = 3 := by have := congrArg List.length hf; simpa using this
    obtain ⟨l⟩ := fs
    match l, hfs, hf with
    | [f0, f1, f2], _, hf =>
      simp only [List.map_cons, List.map_nil, List.cons.injEq, Prod.mk.injEq, and_true] at hf
      obtain ⟨⟨t0, o0⟩, ⟨t1, o1⟩, ⟨t2, o2⟩⟩ := hf
      match xs, hxl with
      | [y0, y1, y2], _ =>
        have e0 := hfd 0 f0 rfl
        have e1 := hfd 1 f1 rfl
        have e2 := hfd 2 f2 rfl
        rw [o0, t0, T.hst.2] at e0
        rw [o1, t1, T.hst.2] at e1
        rw [o2, t2, T.hb.2] at e2
        obtain ⟨a0, ha0, _, w0⟩ := DataW.trod_string T.hst.1 e0
        obtain ⟨a1, ha1, _, w1⟩ := DataW.trod_string T.hst.1 e1
        obtain ⟨a2, ha2, _⟩ := DataW.trod_bool T.hb.1 e2
        simp at ha0 ha1 ha2
        subst ha0; subst ha1; subst ha2
        exact ⟨⟨a0, a1, a2⟩, rfl, w0, w1⟩
theorem trod_rgs {tp : TypeId} (T : PtTy P tp) {n : Nat} {cs : List Value} {y : DataW H × List MemPlace} (h : DataW.trod enc P w base spare held n T.trs cs = some y) : ∃ (A : Option Addr) (n c : Nat) (l : List Rg), cs = [.slice A n c] ∧ n ≤ c ∧ c ≤ maxLen ∧ Reads w w.heap.size 3 A n (vRg l) := by
  obtain ⟨A0, n0, k0, L0, ha0, p0, q0, z0, h4_0, h5_0⟩ := trod_sl (fun c => ∃ v : Rg, c = v.cells ∧ v.ok) T.hrs.1 T.hrC (by omega) (fun m c y hc _ => trod_rg T hc) h
  obtain ⟨l0, rfl, hl0⟩ := ex_of Rg.cells (fun v => v.ok) L0 fun c hc => (h4_0 c hc).1
  have hfl0 : (l0.map Rg.cells).flatMap id = vRg l0 := by unfold vRg; rw [List.flatMap_map]; rfl
  rw [hfl0] at h5_0
  exact ⟨A0, n0, k0, l0, ha0, p0, q0, h5_0⟩
theorem trod_pt {tp : TypeId} (T : PtTy P tp) {n : Nat} {cs : List Value} {y : DataW H × List MemPlace} (h : DataW.trod enc P w base spare held n tp cs = some y) : ∃ p : Pt, cs = p.cells ∧ PtIn w w.heap.size p := by
  obtain ⟨xs, m, hm, _, hlen, hxl, hfd⟩ := DataW.trod_struct T.hp h
  have hf := T.hpf
  rw [T.hpC] at hlen
  generalize T.fp = fs at hf hxl hfd
  match cs, hlen with
  | [c0, c1, c2, c3, c4, c5, c6], _ =>
    have hfs : fs.size = 7 := by have := congrArg List.length hf; simpa using this
    obtain ⟨l⟩ := fs
    match l, hfs, hf with
    | [f0, f1, f2, f3, f4, f5, f6], _, hf =>
      simp only [List.map_cons, List.map_nil, List.cons.injEq, Prod.mk.injEq, and_true] at hf
      obtain ⟨⟨t0, o0⟩, ⟨t1, o1⟩, ⟨t2, o2⟩, ⟨t3, o3⟩, ⟨t4, o4⟩, ⟨t5, o5⟩, ⟨t6, o6⟩⟩ := hf
      match xs, hxl with
      | [y0, y1, y2, y3, y4, y5, y6], _ =>
        have e0 := hfd 0 f0 rfl
        have e1 := hfd 1 f1 rfl
        have e2 := hfd 2 f2 rfl
        have e3 := hfd 3 f3 rfl
        have e4 := hfd 4 f4 rfl
        have e5 := hfd 5 f5 rfl
        have e6 := hfd 6 f6 rfl
        rw [o0, t0, T.hk.2] at e0
        rw [o1, t1, T.hi.2] at e1
        rw [o2, t2, T.hrs.2] at e2
        rw [o3, t3, T.his.2] at e3
        rw [o4, t4, T.hi.2] at e4
        rw [o5, t5, T.hrs.2] at e5
        rw [o6, t6, T.his.2] at e6
        obtain ⟨a0, ha0, _, w0⟩ := DataW.trod_int T.hk.1 e0
        obtain ⟨a1, ha1, _, w1⟩ := DataW.trod_int T.hi.1 e1
        obtain ⟨A2, n2, k2, L2, ha2, p2, q2, z2⟩ := trod_rgs T e2
        obtain ⟨A3, n3, k3, L3, ha3, p3, q3, _, _, z3⟩ := trod_ints T.his.1 T.hi.1 T.hi.2 e3
        obtain ⟨a4, ha4, _, w4⟩ := DataW.trod_int T.hi.1 e4
        obtain ⟨A5, n5, k5, L5, ha5, p5, q5, z5⟩ := trod_rgs T e5
        obtain ⟨A6, n6, k6, L6, ha6, p6, q6, _, _, z6⟩ := trod_ints T.his.1 T.hi.1 T.hi.2 e6
        simp at ha0 ha1 ha2 ha3 ha4 ha5 ha6
        subst ha0; subst ha1; subst ha2; subst ha3; subst ha4; subst ha5; subst ha6
        exact ⟨⟨a0, a1, A2, n2, k2, A3, n3, k3, a4, A5, n5, k5, A6, n6, k6, L2, L3, L5, L6⟩, rfl, Go.bounds_u8 w0, Go.bounds_i64 w1, Go.bounds_i64 w4, z2, z3, z5, z6, ⟨p2, q2⟩, ⟨p3, q3⟩, ⟨p5, q5⟩, ⟨p6, q6⟩⟩
end
def Tryz.ptTy : PtTy Tryz.prog 29 := ⟨_, _, 5, 3, 26, 56, 27, 9, 4, Tryz.underlying29, by kernel_rfl, rfl, Tryz.underlying56, by kernel_rfl, rfl, ⟨Tryz.underlying26, by kernel_rfl⟩, ⟨Tryz.underlying27, by kernel_rfl⟩, ⟨Tryz.underlying3, by kernel_rfl⟩, ⟨Tryz.underlying5, by kernel_rfl⟩, ⟨Tryz.underlying9, by kernel_rfl⟩, ⟨Tryz.underlying4, by kernel_rfl⟩⟩
end Go.Proofs.YtoamnnonkhgpoaaGreatDoor
