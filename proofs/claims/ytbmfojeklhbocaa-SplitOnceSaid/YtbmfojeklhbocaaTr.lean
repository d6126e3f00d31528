/-
  Terms: how they come in; their type, as this program has it.
-/
import Derived.Test.YtbmfojeklhbocaaTa
import Derived.Test.YtbmfojeklhbocaaProg
set_option linter.unusedSimpArgs false
set_option linter.unusedVariables false
namespace Go.Proofs.Ytbmfojeklhbocaa
open Go.RowKit Go.ChangeShapes Go.WideShapes Go.Deep

section
variable {H : Type} {enc : TypeId × Value → H} {P : Program} {w : World} {base : Nat} {spare : Nat → Bool} {held : Bool}
/-- The struct type of terms, as its fields stand. -/
structure TmTy (P : Program) (t : TypeId) where
  fs : Array Field
  tk : TypeId
  ts : TypeId
  tbo : TypeId
  tv : TypeId
  ti : TypeId
  tj : TypeId
  tl : TypeId
  vs : Array Field
  hs : P.underlying t = some (.struct fs)
  hC : P.cellsOf t = 11
  hf : fs.toList.map (fun f => (f.type, f.offset)) = [(tk, 0), (ts, 1), (tbo, 2), (tv, 3), (ts, 6), (ts, 7), (ti, 8), (ti, 9), (tl, 10)]
  hk : P.underlying tk = some (.int .u8) ∧ P.cellsOf tk = 1
  hst : P.underlying ts = some .string ∧ P.cellsOf ts = 1
  hbo : P.underlying tbo = some .bool ∧ P.cellsOf tbo = 1
  hv : P.underlying tv = some (.struct vs) ∧ P.cellsOf tv = 3
  hvo : oneCellFields P vs = true
  hvg : vs.toList.map (·.type) = [tk, tj, ts]
  hj : P.underlying tj = some (.int .i64)
  hi : P.underlying ti = some (.int .i64) ∧ P.cellsOf ti = 1
  hl : P.underlying tl = some (.slice t) ∧ P.cellsOf tl = 1
theorem trod_tm {t : TypeId} (T : TmTy P t) : ∀ (n : Nat) {cs : List Value} {y : DataW H × List MemPlace}, DataW.trod enc P w base spare held n t cs = some y → ∃ v : Tm, cs = v.cells ∧ TmIn w w.heap.size v := by
  intro n
  induction n using Nat.strongRecOn with
  | _ n ih =>
    intro cs y h
    obtain ⟨fs, tk, ts, tbo, tv, ti, tj, tl, vs, hs, hC, hf, ⟨hk, hk1⟩, ⟨hst, hst1⟩, ⟨hbo, hbo1⟩, ⟨hv, hv1⟩, hvo, hvg, hj, ⟨hi, hi1⟩, ⟨hl, hl1⟩⟩ := T
    obtain ⟨xs, m, hm, _, hlen, hxl, hfd⟩ := DataW.trod_struct hs h
    rw [hC] at hlen
    match cs, hlen with
    | [c0, c1, c2, c3, c4, c5, c6, c7, c8, c9, c10], _ =>
      have hfs : fs.size = 9 := by have := congrArg List.length hf; simpa using this
      obtain ⟨l⟩ := fs
      match l, hfs, hf with
      | [f0, f1, f2, f3, f4, f5, f6, f7, f8], _, hf =>
        simp only [List.map_cons, List.map_nil, List.cons.injEq, Prod.mk.injEq, and_true] at hf
        obtain ⟨⟨t0, o0⟩, ⟨t1, o1⟩, ⟨t2, o2⟩, ⟨t3, o3⟩, ⟨t4, o4⟩, ⟨t5, o5⟩, ⟨t6, o6⟩, ⟨t7, o7⟩, ⟨t8, o8⟩⟩ := hf
        match xs, hxl with
        | [y0, y1, y2, y3, y4, y5, y6, y7, y8], _ =>
          have e0 := hfd 0 f0 rfl
          have e1 := hfd 1 f1 rfl
          have e2 := hfd 2 f2 rfl
          have e3 := hfd 3 f3 rfl
          have e4 := hfd 4 f4 rfl
          have e5 := hfd 5 f5 rfl
          have e6 := hfd 6 f6 rfl
          have e7 := hfd 7 f7 rfl
          have e8 := hfd 8 f8 rfl
          rw [o0, t0, hk1] at e0
          rw [o1, t1, hst1] at e1
          rw [o2, t2, hbo1] at e2
          rw [o3, t3, hv1] at e3
          rw [o4, t4, hst1] at e4
          rw [o5, t5, hst1] at e5
          rw [o6, t6, hi1] at e6
          rw [o7, t7, hi1] at e7
          rw [o8, t8, hl1] at e8
          obtain ⟨a0, ha0, _, w0⟩ := DataW.trod_int hk e0
          obtain ⟨a1, ha1, _, w1⟩ := DataW.trod_string hst e1
          obtain ⟨a2, ha2, _⟩ := DataW.trod_bool hbo e2
          obtain ⟨a3, ha3, w3⟩ := trod_val hv hvo hv1 hvg hk hj hst e3
          obtain ⟨a4, ha4, _, w4⟩ := DataW.trod_string hst e4
          obtain ⟨a5, ha5, _, w5⟩ := DataW.trod_string hst e5
          obtain ⟨a6, ha6, _, w6⟩ := DataW.trod_int hi e6
          obtain ⟨a7, ha7, _, w7⟩ := DataW.trod_int hi e7
          obtain ⟨A, len, cap, L, hcs, h1, h2, h3, h4, h5⟩ := trod_slF (fun c => ∃ v : Tm, c = v.cells ∧ TmIn w w.heap.size v) hl hC (by omega) (fun m' c y hm' hc _ => ih m' (by omega) hc) e8
          obtain ⟨args, rfl, hargs⟩ := tms_of L fun c hc => (h4 c hc).1
          have hfl : (args.map Tm.cells).flatMap id = vT args := by unfold vT; rw [List.flatMap_map]; rfl
          rw [hfl] at h5
          simp [Vl.cells] at ha0 ha1 ha2 ha3 ha4 ha5 ha6 ha7 hcs
          obtain ⟨rfl, rfl, rfl⟩ := ha3
          subst ha0; subst ha1; subst ha2; subst ha4; subst ha5; subst ha6; subst ha7; subst hcs
          exact ⟨.mk ⟨a0, a1, a2, a3, a4, a5, a6, a7⟩ A len cap args, rfl, .mk _ A len cap args ⟨Go.bounds_u8 w0, w1, w3, w4, w5, Go.bounds_i64 w6, Go.bounds_i64 w7⟩ h1 h2 h5 hargs⟩
/-- A slice of terms that came in. -/
theorem trod_tms {t tl : TypeId} (T : TmTy P t) (ht : P.underlying tl = some (.slice t)) {n : Nat} {cs : List Value} {y : DataW H × List MemPlace} (h : DataW.trod enc P w base spare held n tl cs = some y) :
    ∃ (A : Option Addr) (len cap : Nat) (l : List Tm), cs = [.slice A len cap] ∧ len ≤ cap ∧ cap ≤ maxLen ∧ l.length = len ∧ (∀ v ∈ l, TmIn w w.heap.size v) ∧ Reads w w.heap.size 11 A len (vT l) := by
  obtain ⟨A, len, cap, L, rfl, h1, h2, h3, h4, h5⟩ := trod_sl (fun c => ∃ v : Tm, c = v.cells ∧ TmIn w w.heap.size v) ht T.hC (by omega) (fun m c y hc _ => trod_tm T m hc) h
  obtain ⟨l, rfl, hl⟩ := tms_of L fun c hc => (h4 c hc).1
  refine ⟨A, len, cap, l, rfl, h1, h2, by simpa using h3, hl, ?_⟩
  have : (l.map Tm.cells).flatMap id = vT l := by unfold vT; rw [List.flatMap_map]; rfl
  rwa [this] at h5
end
def Try.tmTy : TmTy Try.prog 56 := ⟨_, 5, 9, 4, 54, 3, 2, 37, _, Try.underlying56, by kernel_rfl, rfl, ⟨Try.underlying5, by kernel_rfl⟩, ⟨Try.underlying9, by kernel_rfl⟩, ⟨Try.underlying4, by kernel_rfl⟩, ⟨Try.underlying54, by kernel_rfl⟩, by kernel_rfl, rfl, Try.underlying2, ⟨Try.underlying3, by kernel_rfl⟩, ⟨Try.underlying37, by kernel_rfl⟩⟩
end Go.Proofs.Ytbmfojeklhbocaa
