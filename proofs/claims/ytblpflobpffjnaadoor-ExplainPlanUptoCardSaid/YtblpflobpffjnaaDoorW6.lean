
/-
  A book, a block and a plan as they come in; how long their names are, as the reading's bulk tells.
-/
import Derived.Test.YtblpflobpffjnaaDoorW5
import Derived.Test.YtblpflobpffjnaaDoorRows
set_option linter.unusedSimpArgs false
set_option linter.unusedVariables false
namespace Go.Proofs.YtblpflobpffjnaaDoor
open Go.RowKit Go.ChangeShapes Go.WideShapes Go.Deep

theorem bulk_one {H : Type} (d : DataW H) : 1 ≤ Rows.uptoBulk d := by
  cases d with
  | lit x => cases x <;> simp [Rows.uptoBulk]
  | _ => simp [Rows.uptoBulk]
theorem bulk_len {H : Type} : ∀ l : List (DataW H), l.length ≤ Rows.uptoBulkAll l
  | [] => by simp
  | d :: r => by
    have h1 := bulk_one d
    have h2 := bulk_len r
    simp only [Rows.uptoBulkAll, List.length_cons]
    omega
theorem bulk_mem {H : Type} : ∀ {l : List (DataW H)} {d : DataW H}, d ∈ l → Rows.uptoBulk d ≤ Rows.uptoBulkAll l
  | x :: r, d, h => by
    rw [Rows.uptoBulkAll]
    rcases List.mem_cons.1 h with rfl | h
    · omega
    · have := bulk_mem h
      omega
section
variable {H : Type} {enc : TypeId × Value → H} {P : Program} {w : World} {base : Nat} {spare : Nat → Bool} {held : Bool}
/-- The names of a slice of structs that begin with one: not longer than the reading's bulk; nor has it more elements. -/
theorem names_bulk {t e ts : TypeId} {fs : Array Field} {f0 : Field} {sz n : Nat} {A : Option Addr} {len cap : Nat} {y : DataW H × List MemPlace} (ht : P.underlying t = some (.slice e)) (he : P.underlying e = some (.struct fs)) (hsz : P.cellsOf e = sz) (hs0 : 0 < sz) (hf : fs[0]? = some f0) (h0 : f0.type = ts ∧ f0.offset = 0) (hts : P.underlying ts = some .string ∧ P.cellsOf ts = 1)
    (h : DataW.trod enc P w base spare held n t [.slice A len cap] = some y) :
    len ≤ Rows.uptoBulk y.1 ∧ ∀ ad, A = some ad → ∀ k, k < len → ∀ s : ByteArray, w.cell? (ad.add (k * sz)) = some (.string s) → s.size ≤ Rows.uptoBulk y.1 := by
  rcases DataW.trod_slice ht h with ⟨hc, _⟩ | ⟨a, len', cap', elems, rest, m', _, hcs, hx, _, _, _, hle, hel, _, _⟩
  · simp at hc
    obtain ⟨rfl, rfl, rfl⟩ := hc
    exact ⟨Nat.zero_le _, fun ad h => by cases h⟩
  · simp at hcs
    obtain ⟨rfl, rfl, rfl⟩ := hcs
    subst hx
    have hb1 := bulk_len (elems.map (·.1))
    rw [List.length_map, hle] at hb1
    refine ⟨by simp only [Rows.uptoBulk]; omega, fun ad had k hk s hs => ?_⟩
    injection had with had
    subst had
    have h1 := hel k hk
    rw [hsz, List.getElem?_eq_getElem (by omega)] at h1
    obtain ⟨c, hc1, hc2⟩ := Option.bind_eq_some_iff.1 h1
    obtain ⟨_, hcl, hcc⟩ := World.cells?_some hc1
    have hc0 := hcc 0 hs0
    obtain ⟨xs, m2, _, hx2, hlen2, hxl2, hfd2⟩ := DataW.trod_struct he hc2
    have e0 := hfd2 0 f0 hf
    rw [h0.1, h0.2, hts.2] at e0
    have hxs : 0 < xs.length := by
      rw [hxl2]
      rcases Nat.eq_zero_or_pos fs.size with h | h
      · rw [Array.getElem?_eq_none (by omega)] at hf; cases hf
      · exact h
    rw [List.getElem?_eq_getElem hxs] at e0
    obtain ⟨s', hs', hx', _⟩ := DataW.trod_string hts.1 e0
    have hss : s' = s := by
      have : c[0]? = some (.string s') := by
        have := congrArg (fun l : List Value => l[0]?) hs'
        simpa using this
      rw [this, add_of_add, Nat.add_zero, hs] at hc0
      injection hc0 with hc0
      injection hc0 with hc0
      exact hc0.symm
    have hm1 : elems[k].1 ∈ elems.map (·.1) := List.mem_map.2 ⟨_, List.getElem_mem _, rfl⟩
    have b1 := bulk_mem hm1
    rw [hx2] at b1
    have hm2 : xs[0].1 ∈ xs.map (·.1) := List.mem_map.2 ⟨_, List.getElem_mem _, rfl⟩
    have b2 := bulk_mem hm2
    rw [hx'] at b2
    simp only [Rows.uptoBulk] at b1 b2 ⊢
    have : s'.data.toList.length = s.size := by rw [hss, len_size]
    omega
theorem book_bulk {tb : TypeId} (T : BkTy P tb) {n : Nat} {A B : Option Addr} {k c m d : Nat} {y : DataW H × List MemPlace} (h : DataW.trod enc P w base spare held n tb [.slice A k c, .slice B m d] = some y) :
    (k ≤ Rows.uptoBulk y.1 ∧ ∀ ad, A = some ad → ∀ j, j < k → ∀ s : ByteArray, w.cell? (ad.add (j * 5)) = some (.string s) → s.size ≤ Rows.uptoBulk y.1) ∧ ∀ ad, B = some ad → ∀ j, j < m → ∀ s : ByteArray, w.cell? (ad.add (j * 7)) = some (.string s) → s.size ≤ Rows.uptoBulk y.1 := by
  obtain ⟨xs, m', hm, hy, hlen, hxl, hfd⟩ := DataW.trod_struct T.hb h
  have hf := T.hbf
  generalize T.fb = fs at hf hxl hfd
  have hfs : fs.size = 2 := by have := congrArg List.length hf; simpa using this
  obtain ⟨l⟩ := fs
  match l, hfs, hf with
  | [f0, f1], _, hf =>
    simp only [List.map_cons, List.map_nil, List.cons.injEq, Prod.mk.injEq, and_true] at hf
    obtain ⟨⟨t0, o0⟩, ⟨t1, o1⟩⟩ := hf
    match xs, hxl, hy with
    | [y0, y1], _, hy =>
      have e0 := hfd 0 f0 rfl
      have e1 := hfd 1 f1 rfl
      rw [o0, t0, T.hts.2] at e0
      rw [o1, t1, T.hxs.2] at e1
      subst hy
      have hft := T.htf
      have hfx := T.hxf
      have hTt := T.htt
      have hTx := T.hx
      generalize T.ft = ft at hft hTt
      generalize T.fx = fx at hfx hTx
      obtain ⟨lt⟩ := ft
      obtain ⟨lx⟩ := fx
      match lt, hft with
      | g0 :: gr, hft =>
        match lx, hfx with
        | h0 :: hr, hfx =>
          simp only [List.map_cons, List.cons.injEq, Prod.mk.injEq] at hft hfx
          have q0 := names_bulk (sz := 5) (f0 := g0) T.hts.1 hTt T.htC (by omega) rfl hft.1 T.hst e0
          have q1 := names_bulk (sz := 7) (f0 := h0) T.hxs.1 hTx T.hxC (by omega) rfl hfx.1 T.hst e1
          simp only [List.map_cons, List.map_nil, Rows.uptoBulk, Rows.uptoBulkAll]
          exact ⟨⟨by omega, fun ad ha j hj s hs => by have := q0.2 ad ha j hj s hs; omega⟩, fun ad ha j hj s hs => by have := q1.2 ad ha j hj s hs; omega⟩
theorem sl_form {t e : TypeId} {n : Nat} {cs : List Value} {y : DataW H × List MemPlace} (ht : P.underlying t = some (.slice e)) (h : DataW.trod enc P w base spare held n t cs = some y) : ∃ A k c, cs = [.slice A k c] ∧ k ≤ maxLen := by
  rcases DataW.trod_slice ht h with ⟨hc, _⟩ | ⟨a, len', cap', elems, rest, m', _, hcs, hx, _, h1, h2, _⟩
  · exact ⟨none, 0, 0, hc, Nat.zero_le _⟩
  · exact ⟨some a, len', cap', hcs, Nat.le_trans h1 h2⟩
/-- The types of a block and a plan. -/
structure PlTy (P : Program) (tk tp : TypeId) where
  fk : Array Field
  fp : Array Field
  fs : Array Field
  fh : Array Field
  k0 : TypeId
  tis : TypeId
  ti : TypeId
  k2 : TypeId
  k3 : TypeId
  k4 : TypeId
  k5 : TypeId
  k6 : TypeId
  k7 : TypeId
  k8 : TypeId
  k9 : TypeId
  k10 : TypeId
  tss : TypeId
  tb : TypeId
  ts : TypeId
  th : TypeId
  tu : TypeId
  trs : TypeId
  tr : TypeId
  hk : P.underlying tk = some (.struct fk)
  hkC : P.cellsOf tk = 11
  hkf : fk.toList.map (fun f => (f.type, f.offset)) = [(k0, 0), (tis, 1), (k2, 2), (k3, 3), (k4, 4), (k5, 5), (k6, 6), (k7, 7), (k8, 8), (k9, 9), (k10, 10)]
  his : P.underlying tis = some (.slice ti) ∧ P.cellsOf tis = 1
  hi : P.underlying ti = some (.int .i64) ∧ P.cellsOf ti = 1
  hp : P.underlying tp = some (.struct fp)
  hpC : P.cellsOf tp = 2
  hpf : fp.toList.map (fun f => (f.type, f.offset)) = [(tss, 0), (tb, 1)]
  hss : P.underlying tss = some (.slice ts) ∧ P.cellsOf tss = 1
  hb : P.underlying tb = some .bool ∧ P.cellsOf tb = 1
  hs : P.underlying ts = some (.struct fs)
  hsC : P.cellsOf ts = 11
  hsf : fs.toList.map (fun f => (f.type, f.offset)) = [(ti, 0), (tu, 1), (th, 2), (ti, 9), (ti, 10)]
  hu : P.underlying tu = some (.int .u8) ∧ P.cellsOf tu = 1
  hh : P.underlying th = some (.struct fh)
  hhC : P.cellsOf th = 7
  hhf : fh.toList.map (fun f => (f.type, f.offset)) = [(tu, 0), (ti, 1), (trs, 2), (tis, 3), (ti, 4), (trs, 5), (tis, 6)]
  hrs : P.underlying trs = some (.slice tr) ∧ P.cellsOf trs = 1
theorem trod_step {tk tp : TypeId} (T : PlTy P tk tp) {n : Nat} {cs : List Value} {y : DataW H × List MemPlace} (h : DataW.trod enc P w base spare held n T.ts cs = some y) : ∃ v : Sp, cs = v.cells ∧ v.ok := by
  obtain ⟨xs, m, hm, _, hlen, hxl, hfd⟩ := DataW.trod_struct T.hs h
  have hf := T.hsf
  rw [T.hsC] at hlen
  generalize T.fs = fs at hf hxl hfd
  match cs, hlen with
  | [c0, c1, c2, c3, c4, c5, c6, c7, c8, c9, c10], _ =>
    have hfs : fs.size = 5 := by have := congrArg List.length hf; simpa using this
    obtain ⟨l⟩ := fs
    match l, hfs, hf with
    | [f0, f1, f2, f3, f4], _, hf =>
      simp only [List.map_cons, List.map_nil, List.cons.injEq, Prod.mk.injEq, and_true] at hf
      obtain ⟨⟨t0, o0⟩, ⟨t1, o1⟩, ⟨t2, o2⟩, ⟨t3, o3⟩, ⟨t4, o4⟩⟩ := hf
      match xs, hxl with
      | [y0, y1, y2, y3, y4], _ =>
        have e0 := hfd 0 f0 rfl
        have e1 := hfd 1 f1 rfl
        have e2 := hfd 2 f2 rfl
        have e3 := hfd 3 f3 rfl
        have e4 := hfd 4 f4 rfl
        rw [o0, t0, T.hi.2] at e0
        rw [o1, t1, T.hu.2] at e1
        rw [o2, t2, T.hhC] at e2
        rw [o3, t3, T.hi.2] at e3
        rw [o4, t4, T.hi.2] at e4
        obtain ⟨a0, ha0, _, w0⟩ := DataW.trod_int T.hi.1 e0
        obtain ⟨a1, ha1, _, w1⟩ := DataW.trod_int T.hu.1 e1
        obtain ⟨a3, ha3, _, w3⟩ := DataW.trod_int T.hi.1 e3
        obtain ⟨a4, ha4, _, w4⟩ := DataW.trod_int T.hi.1 e4
        simp only [List.drop_succ_cons, List.drop_zero, List.take_succ_cons, List.take_zero] at e2
        obtain ⟨zs, m3, _, _, hlen3, hxl3, hfd3⟩ := DataW.trod_struct T.hh e2
        have hf3 := T.hhf
        generalize T.fh = fh at hf3 hxl3 hfd3
        have hfs3 : fh.size = 7 := by have := congrArg List.length hf3; simpa using this
        obtain ⟨l3⟩ := fh
        match l3, hfs3, hf3 with
        | [g0, g1, g2, g3, g4, g5, g6], _, hf3 =>
          simp only [List.map_cons, List.map_nil, List.cons.injEq, Prod.mk.injEq, and_true] at hf3
          obtain ⟨⟨s0, p0⟩, ⟨s1, p1⟩, ⟨s2, p2⟩, ⟨s3, p3⟩, ⟨s4, p4⟩, ⟨s5, p5⟩, ⟨s6, p6⟩⟩ := hf3
          match zs, hxl3 with
          | [z0, z1, z2, z3, z4, z5, z6], _ =>
            have d0 := hfd3 0 g0 rfl
            have d1 := hfd3 1 g1 rfl
            have d2 := hfd3 2 g2 rfl
            have d3 := hfd3 3 g3 rfl
            have d4 := hfd3 4 g4 rfl
            have d5 := hfd3 5 g5 rfl
            have d6 := hfd3 6 g6 rfl
            rw [p0, s0, T.hu.2] at d0
            rw [p1, s1, T.hi.2] at d1
            rw [p2, s2, T.hrs.2] at d2
            rw [p3, s3, T.his.2] at d3
            rw [p4, s4, T.hi.2] at d4
            rw [p5, s5, T.hrs.2] at d5
            rw [p6, s6, T.his.2] at d6
            obtain ⟨b0, hb0, _, v0⟩ := DataW.trod_int T.hu.1 d0
            obtain ⟨b1, hb1, _, v1⟩ := DataW.trod_int T.hi.1 d1
            obtain ⟨A2, n2, k2, hb2, q2⟩ := sl_form T.hrs.1 d2
            obtain ⟨A3, n3, k3, hb3, q3⟩ := sl_form T.his.1 d3
            obtain ⟨b4, hb4, _, v4⟩ := DataW.trod_int T.hi.1 d4
            obtain ⟨A5, n5, k5, hb5, q5⟩ := sl_form T.hrs.1 d5
            obtain ⟨A6, n6, k6, hb6, q6⟩ := sl_form T.his.1 d6
            simp at ha0 ha1 ha3 ha4 hb0 hb1 hb2 hb3 hb4 hb5 hb6
            subst ha0; subst ha1; subst ha3; subst ha4; subst hb0; subst hb1; subst hb2; subst hb3; subst hb4; subst hb5; subst hb6
            exact ⟨⟨a0, a1, b0, b1, A2, n2, k2, A3, n3, k3, b4, A5, n5, k5, A6, n6, k6, a3, a4⟩, rfl, ⟨Go.bounds_i64 w0, Go.bounds_i64 v1, Go.bounds_i64 v4, Go.bounds_i64 w3, Go.bounds_i64 w4, Go.bounds_u8 w1, Go.bounds_u8 v0, q2, q5⟩⟩
theorem trod_plan {tk tp : TypeId} (T : PlTy P tk tp) {n : Nat} {cs : List Value} {y : DataW H × List MemPlace} (h : DataW.trod enc P w base spare held n tp cs = some y) :
    ∃ (A : Option Addr) (k c : Nat) (sps : List Sp) (srt : Bool), cs = [.slice A k c, .bool srt] ∧ k ≤ maxLen ∧ Reads w w.heap.size 11 A k (vSp sps) ∧ ∀ x ∈ sps, x.ok := by
  obtain ⟨xs, m, hm, _, hlen, hxl, hfd⟩ := DataW.trod_struct T.hp h
  have hf := T.hpf
  rw [T.hpC] at hlen
  generalize T.fp = fs at hf hxl hfd
  match cs, hlen with
  | [c0, c1], _ =>
    have hfs : fs.size = 2 := by have := congrArg List.length hf; simpa using this
    obtain ⟨l⟩ := fs
    match l, hfs, hf with
    | [f0, f1], _, hf =>
      simp only [List.map_cons, List.map_nil, List.cons.injEq, Prod.mk.injEq, and_true] at hf
      obtain ⟨⟨t0, o0⟩, ⟨t1, o1⟩⟩ := hf
      match xs, hxl with
      | [y0, y1], _ =>
        have e0 := hfd 0 f0 rfl
        have e1 := hfd 1 f1 rfl
        rw [o0, t0, T.hss.2] at e0
        rw [o1, t1, T.hb.2] at e1
        obtain ⟨A0, n0, k0, L0, ha0, p0, q0, z0, h4_0, h5_0⟩ := trod_sl (fun c => ∃ v : Sp, c = v.cells ∧ v.ok) T.hss.1 T.hsC (by omega) (fun m c y hc _ => trod_step T hc) e0
        obtain ⟨l0, rfl, hl0⟩ := ex_of Sp.cells (fun v => v.ok) L0 fun c hc => (h4_0 c hc).1
        have hfl0 : (l0.map Sp.cells).flatMap id = vSp l0 := by unfold vSp; rw [List.flatMap_map]; rfl
        rw [hfl0] at h5_0
        obtain ⟨b1, ha1, _⟩ := DataW.trod_bool T.hb.1 e1
        simp at ha0 ha1
        subst ha0; subst ha1
        exact ⟨A0, n0, k0, l0, b1, rfl, Nat.le_trans p0 q0, h5_0, hl0⟩
theorem trod_block {tk tp : TypeId} (T : PlTy P tk tp) {n : Nat} {cs : List Value} {y : DataW H × List MemPlace} (h : DataW.trod enc P w base spare held n tk cs = some y) :
    ∃ (K : Option Addr) (kn kc : Nat) (ks : List Int) (v0 v2 v3 v4 v5 v6 v7 v8 v9 v10 : Value), cs = [v0, .slice K kn kc, v2, v3, v4, v5, v6, v7, v8, v9, v10] ∧ kn ≤ maxLen ∧ Reads w w.heap.size 1 K kn (vI64 ks) ∧ ∀ z ∈ ks, I64 z := by
  obtain ⟨xs, m, hm, _, hlen, hxl, hfd⟩ := DataW.trod_struct T.hk h
  have hf := T.hkf
  rw [T.hkC] at hlen
  generalize T.fk = fs at hf hxl hfd
  match cs, hlen with
  | [c0, c1, c2, c3, c4, c5, c6, c7, c8, c9, c10], _ =>
    have hfs : fs.size = 11 := by have := congrArg List.length hf; simpa using this
    obtain ⟨l⟩ := fs
    match l, hfs, hf with
    | f0 :: f1 :: r, hfs, hf =>
      simp only [List.map_cons, List.cons.injEq, Prod.mk.injEq] at hf
      have hxp : 1 < xs.length := by rw [hxl, hfs]; omega
      have e1 := hfd 1 f1 rfl
      rw [hf.2.1.1, hf.2.1.2, T.his.2, List.getElem?_eq_getElem hxp] at e1
      obtain ⟨A2, n2, k2, L2, ha2, p2, q2, _, z1, z2⟩ := trod_ints T.his.1 T.hi.1 T.hi.2 e1
      simp at ha2
      subst ha2
      exact ⟨A2, n2, k2, L2, c0, c2, c3, c4, c5, c6, c7, c8, c9, c10, rfl, Nat.le_trans p2 q2, z2, fun z hz => Go.bounds_i64 (z1 z hz)⟩
end
def Tryd.plTy : PlTy Tryd.prog 32 35 := ⟨_, _, _, _, 4, 26, 3, 27, 28, 29, 27, 4, 27, 27, 30, 3, 33, 4, 71, 69, 5, 67, 173, Tryd.underlying32, by kernel_rfl, rfl, ⟨Tryd.underlying26, by kernel_rfl⟩, ⟨Tryd.underlying3, by kernel_rfl⟩, Tryd.underlying35, by kernel_rfl, rfl, ⟨Tryd.underlying33, by kernel_rfl⟩, ⟨Tryd.underlying4, by kernel_rfl⟩, Tryd.underlying71, by kernel_rfl, rfl, ⟨Tryd.underlying5, by kernel_rfl⟩, Tryd.underlying69, by kernel_rfl, rfl, ⟨Tryd.underlying67, by kernel_rfl⟩⟩
end Go.Proofs.YtblpflobpffjnaaDoor
