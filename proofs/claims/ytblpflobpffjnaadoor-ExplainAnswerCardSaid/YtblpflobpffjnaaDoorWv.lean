
/-
  An answer as it comes in; the wrap of a door's row with the reach handed on.
-/
import Derived.Test.YtblpflobpffjnaaDoorWu
import Derived.Test.YtblpflobpffjnaaDoorRows
import Derived.SizedLaws
import Derived.WalkKit
import Derived.ProofKit
import Derived.LaidLaws
import Derived.LaidMore
import Derived.Lay
import Derived.Handed
import Derived.HandedShaped
import Derived.Shelf.Vars
import Derived.Stop.Joined
import Derived.OpenShut
import Derived.Stop.LaidErr
set_option linter.unusedSimpArgs false
set_option linter.unusedVariables false
namespace Go.Proofs.YtblpflobpffjnaaDoor
open Go.RowKit Go.ChangeShapes Go.WideShapes Go.Deep Go.ChangeAt

section
variable {H : Type} {enc : TypeId × Value → H}
theorem returns_door_sized {a : Assume} {C : Checked} {os : Os} {f : FuncId} {fn : Func} {s : ChangeSpec} {conds : List PathCond} {apart fresh handsOn again : Bool} {laid : List (String × DataW Unit)}
    (own : ownKnob C.prog.godebug = none) (started : os.Started) (noInit : C.prog.inits.idxOf? f = none) (hfn : C.prog.funcs[f]? = some fn)
    (witness : ∃ (w : World) (tape : Tape) (i : Input), w.os = os ∧ (w.forCall tape i).Shaped C.prog ∧ i.vars = [] ∧ Input.okWide C.prog (w.forCall tape i) .any w.heap.size f i ∧
      ((s.pre enc C.prog fn conds apart (w.forCall tape i).memory i.args ∧ laidMetH C.prog laid (w.forCall tape i).memory) ∧ sizedMet enc C.prog fn (OpenSpec.ofChange s) apart (w.forCall tape i).memory i.args) ∧ a.holds C.prog (lone (Frame.enter C.prog f i.args .normal) [] (w.forCall tape i)))
    (contract : ∀ (W : World) (base : Nat) (args : Array Value) (ds gs : List (DataW H)) (before : List MemPlace),
      (∀ (j : Nat) t v, fn.params[j]? = some t → args[j]? = some v → Value.okWide C.prog W .any base t v) →
      DataW.Whole enc C.prog fn.params.toList s.vars apart W args.toList ds gs before →
      laidMetH C.prog laid W →
      W.ShapedOpen C.prog →
      (DataW.weightsEach C.prog (fn.params.toList ++ s.plain.varTypes C.prog) (ds ++ gs)).all (· ≤ reachBytes) = true →
      Calls C.prog f args W fun e W' => ∃ v, e = .returned v ∧ s.post enc C.prog fn apart fresh handsOn again W args v W') :
    ReturnsInHanded a C os f .any (fun w args => (s.pre enc C.prog fn conds apart w args ∧ laidMetH C.prog laid w) ∧ sizedMet enc C.prog fn (OpenSpec.ofChange s) apart w args) (s.post enc C.prog fn apart fresh handsOn again) := by
  refine returnsInHanded_of_calls own started noInit witness ?_
  intro w tape i _ hsh _ hok hpre hholds
  obtain ⟨_, _, _, fn', hfn', _, _, _, _, hval⟩ := hok
  have e : fn' = fn := Option.some.inj (hfn'.symm.trans hfn)
  subst e
  obtain ⟨⟨⟨ds, gs, before, hw, hc⟩, hx⟩, hz⟩ := hpre
  have hw' := DataW.Whole.of_heap (w' := w.forCall tape i) (by rfl) hw
  refine (contract (w.forCall tape i) w.heap.size i.args ds gs before hval hw' (laidMetH.of_heap (by rfl) hx) hsh (hz.weights hw)).mono fun e W' ⟨v, he, hp⟩ => ?_
  subst he
  exact ChangeSpec.post_blind hp
end

section
variable {H : Type} {enc : TypeId × Value → H} {P : Program} {w : World} {base : Nat} {spare : Nat → Bool} {held : Bool}
theorem flat_one {α : Type} (f : α → Value) : ∀ l : List α, (l.map (fun v => [f v])).flatMap id = l.map f
  | [] => rfl
  | a :: r => by rw [List.map_cons, List.flatMap_cons, flat_one f r]; rfl
structure AnTy (P : Program) (tA : TypeId) where
  fa : Array Field
  fv : Array Field
  tns : TypeId
  ts : TypeId
  trs : TypeId
  tr : TypeId
  tv : TypeId
  tk : TypeId
  ti : TypeId
  hA : P.underlying tA = some (.struct fa)
  hAC : P.cellsOf tA = 2
  hAf : fa.toList.map (fun f => (f.type, f.offset)) = [(tns, 0), (trs, 1)]
  hns : P.underlying tns = some (.slice ts) ∧ P.cellsOf tns = 1
  hst : P.underlying ts = some .string ∧ P.cellsOf ts = 1
  hrs : P.underlying trs = some (.slice tr) ∧ P.cellsOf trs = 1
  hr : P.underlying tr = some (.slice tv) ∧ P.cellsOf tr = 1
  hv : P.underlying tv = some (.struct fv)
  hone : oneCellFields P fv = true
  hvC : P.cellsOf tv = 3
  hvf : fv.toList.map (·.type) = [tk, ti, ts]
  hk : P.underlying tk = some (.int .u8)
  hi : P.underlying ti = some (.int .i64)
  hby : P.bytesOf ts = 16
theorem trod_ans {tA : TypeId} (T : AnTy P tA) {n : Nat} {cs : List Value} {y : DataW H × List MemPlace} (h : DataW.trod enc P w base spare held n tA cs = some y) (hall : ∀ x ∈ y.1.weights P tA, x ≤ 140737488351232) :
    ∃ (NA : Option Addr) (nn nc : Nat) (names : List (List UInt8)) (RA : Option Addr) (rn rc : Nat) (rows : List Rw), cs = [.slice NA nn nc, .slice RA rn rc] ∧ nn ≤ 8796093022208 ∧ rn ≤ maxLen ∧ Reads w w.heap.size 1 NA nn (vStr names) ∧ (∀ x ∈ names, x.length ≤ maxLen) ∧
      Reads w w.heap.size 1 RA rn (vRw rows) ∧ (∀ r ∈ rows, Reads w w.heap.size 3 r.A r.n (vV r.l) ∧ r.n ≤ maxLen ∧ ∀ v ∈ r.l, v.ok) := by
  obtain ⟨xs, m, hm, hy, hlen, hxl, hfd⟩ := DataW.trod_struct T.hA h
  have hf := T.hAf
  have hAu := T.hA
  rw [T.hAC] at hlen
  generalize T.fa = fs at hf hxl hfd hAu
  match cs, hlen with
  | [c0, c1], _ =>
    have hfs : fs.size = 2 := by have := congrArg List.length hf; simpa using this
    obtain ⟨l⟩ := fs
    match l, hfs, hf, hAu with
    | [f0, f1], _, hf, hAu =>
      simp only [List.map_cons, List.map_nil, List.cons.injEq, Prod.mk.injEq, and_true] at hf
      obtain ⟨⟨t0, o0⟩, ⟨t1, o1⟩⟩ := hf
      match xs, hxl, hy with
      | [y0, y1], _, hy =>
        have e0 := hfd 0 f0 rfl
        have e1 := hfd 1 f1 rfl
        rw [o0, t0, T.hns.2] at e0
        rw [o1, t1, T.hrs.2] at e1
        subst hy
        have hreach : ∀ A k c, c0 = .slice A k c → k ≤ 8796093022208 := by
          intro A k c hc0
          rcases DataW.trod_slice T.hns.1 e0 with ⟨hc, _⟩ | ⟨a, len, cap, elems, rest, m', _, hcs, hx, _, _, _, hle, _, _, _⟩
          · simp at hc
            rw [hc0] at hc
            injection hc with _ h2 _
            omega
          · simp at hcs
            rw [hc0] at hcs
            injection hcs with _ h2 _
            subst hx
            have h1 := hall ((elems.length + rest.length) * P.bytesOf T.ts) (by
              simp only [List.map_cons, List.map_nil]
              unfold DataW.weights
              rw [hAu]
              simp only [List.map_cons, List.map_nil, DataW.weightsEach, t0]
              refine List.mem_append_left _ ?_
              unfold DataW.weights
              rw [T.hns.1]
              simp)
            rw [T.hby, hle] at h1
            omega
        obtain ⟨A0, n0, k0, L0, ha0, p0, q0, z0, h4_0, h5_0⟩ := trod_sl (fun c => ∃ v : List UInt8, c = [.string (str v)] ∧ v.length ≤ maxLen) T.hns.1 T.hst.2 (by omega) (fun m c y hc hl => by
          obtain ⟨a, ha, _, wa⟩ := DataW.trod_string T.hst.1 hc
          match c, hl with
          | [c'], _ =>
            simp at ha
            subst ha
            exact ⟨a.data.toList, by rw [str_of], by rw [len_size]; exact wa⟩) e0
        obtain ⟨l0, rfl, hl0⟩ := ex_of (fun v : List UInt8 => [Value.string (str v)]) (fun v => v.length ≤ maxLen) L0 fun c hc => (h4_0 c hc).1
        have hfl0 : (l0.map (fun v : List UInt8 => [Value.string (str v)])).flatMap id = vStr l0 := flat_one _ l0
        rw [hfl0] at h5_0
        obtain ⟨A1, n1, k1, L1, ha1, p1, q1, z1, h4_1, h5_1⟩ := trod_sl (fun c => ∃ r : Rw, c = [.slice r.A r.n r.c] ∧ Reads w w.heap.size 3 r.A r.n (vV r.l) ∧ r.n ≤ maxLen ∧ ∀ v ∈ r.l, v.ok) T.hrs.1 T.hr.2 (by omega) (fun m c y hc _ => by
          obtain ⟨A, len, cap, l, hx, a1, a2, a3, a4, a5⟩ := trod_vals T.hr.1 T.hv T.hone T.hvC T.hvf T.hk T.hi T.hst.1 hc
          exact ⟨⟨A, len, cap, l⟩, hx, a5, Nat.le_trans a1 a2, a4⟩) e1
        obtain ⟨l1, rfl, hl1⟩ := ex_of (fun r : Rw => [Value.slice r.A r.n r.c]) (fun r => Reads w w.heap.size 3 r.A r.n (vV r.l) ∧ r.n ≤ maxLen ∧ ∀ v ∈ r.l, v.ok) L1 fun c hc => (h4_1 c hc).1
        have hfl1 : (l1.map (fun r : Rw => [Value.slice r.A r.n r.c])).flatMap id = vRw l1 := flat_one _ l1
        rw [hfl1] at h5_1
        simp at ha0 ha1
        exact ⟨A0, n0, k0, l0, A1, n1, k1, l1, by rw [ha0, ha1], hreach _ _ _ ha0, Nat.le_trans p1 q1, h5_0, hl0, h5_1, hl1⟩
end
def Tryd.anTy : AnTy Tryd.prog 42 := ⟨_, _, 28, 9, 40, 49, 55, 5, 2, Tryd.underlying42, by kernel_rfl, rfl, ⟨Tryd.underlying28, by kernel_rfl⟩, ⟨Tryd.underlying9, by kernel_rfl⟩, ⟨Tryd.underlying40, by kernel_rfl⟩, ⟨Tryd.underlying49, by kernel_rfl⟩, Tryd.underlying55, by kernel_rfl, by kernel_rfl, rfl, Tryd.underlying5, Tryd.underlying2, by kernel_rfl⟩
theorem vm_of {W : World} (hm : MaxC W) (hL : laidMetH Tryd.prog Rows.explainAnswerRow.laid W) : VM W := by
  rw [MakeChecks.laidMetH_plain _ _ _ (by kernel_rfl)] at hL
  exact ⟨hm, Lib.tabIs_of_head (g := 1) (by kernel_rfl) (by kernel_rfl) Tryd.underlying127 Tryd.underlying116 (by kernel_rfl) (by kernel_rfl) hL.tail.tail⟩
end Go.Proofs.YtblpflobpffjnaaDoor
