/-
  How great paths are, as their reading tells it; the wrap of a door's row with the reach handed on.
-/
import Derived.Test.YtoamnnonkhgpoaaGreatDoorP1
import Derived.Test.YtoamnnonkhgpoaaGreatDoorFh
import Derived.Test.YtoamnnonkhgpoaaGreatDoorRows
import Derived.SizedLaws
import Derived.WalkKit
import Derived.ProofKit
import Derived.LaidLaws
import Derived.LaidMore
import Derived.Lay
import Derived.Handed
import Derived.HandedShaped
import Derived.Shelf.Vars
import Derived.Stop.Joined
import Derived.OpenShut
import Derived.Stop.LaidErr
set_option linter.unusedSimpArgs false
set_option linter.unusedVariables false
namespace Go.Proofs.YtoamnnonkhgpoaaGreatDoor
open Go.RowKit Go.ChangeShapes Go.WideShapes Go.Deep Go.ChangeAt

section
variable {H : Type} {enc : TypeId × Value → H}
theorem returns_door_sized {a : Assume} {C : Checked} {os : Os} {f : FuncId} {fn : Func} {s : ChangeSpec} {conds : List PathCond} {apart fresh handsOn again : Bool} {laid : List (String × DataW Unit)}
    (own : ownKnob C.prog.godebug = none) (started : os.Started) (noInit : C.prog.inits.idxOf? f = none) (hfn : C.prog.funcs[f]? = some fn)
    (witness : ∃ (w : World) (tape : Tape) (i : Input), w.os = os ∧ (w.forCall tape i).Shaped C.prog ∧ i.vars = [] ∧ Input.okWide C.prog (w.forCall tape i) .any w.heap.size f i ∧
      ((s.pre enc C.prog fn conds apart (w.forCall tape i).memory i.args ∧ laidMetH C.prog laid (w.forCall tape i).memory) ∧ sizedMet enc C.prog fn (OpenSpec.ofChange s) apart (w.forCall tape i).memory i.args) ∧ a.holds C.prog (lone (Frame.enter C.prog f i.args .normal) [] (w.forCall tape i)))
    (contract : ∀ (W : World) (base : Nat) (args : Array Value) (ds gs : List (DataW H)) (before : List MemPlace),
      (∀ (j : Nat) t v, fn.params[j]? = some t → args[j]? = some v → Value.okWide C.prog W .any base t v) →
      DataW.Whole enc C.prog fn.params.toList s.vars apart W args.toList ds gs before →
      laidMetH C.prog laid W →
      W.ShapedOpen C.prog →
      (DataW.weightsEach C.prog (fn.params.toList ++ s.plain.varTypes C.prog) (ds ++ gs)).all (· ≤ reachBytes) = true →
      Calls C.prog f args W fun e W' => ∃ v, e = .returned v ∧ s.post enc C.prog fn apart fresh handsOn again W args v W') :
    ReturnsInHanded a C os f .any (fun w args => (s.pre enc C.prog fn conds apart w args ∧ laidMetH C.prog laid w) ∧ sizedMet enc C.prog fn (OpenSpec.ofChange s) apart w args) (s.post enc C.prog fn apart fresh handsOn again) := by
  refine returnsInHanded_of_calls own started noInit witness ?_
  intro w tape i _ hsh _ hok hpre hholds
  obtain ⟨_, _, _, fn', hfn', _, _, _, _, hval⟩ := hok
  have e : fn' = fn := Option.some.inj (hfn'.symm.trans hfn)
  subst e
  obtain ⟨⟨⟨ds, gs, before, hw, hc⟩, hx⟩, hz⟩ := hpre
  have hw' := DataW.Whole.of_heap (w' := w.forCall tape i) (by rfl) hw
  refine (contract (w.forCall tape i) w.heap.size i.args ds gs before hval hw' (laidMetH.of_heap (by rfl) hx) hsh (hz.weights hw)).mono fun e W' ⟨v, he, hp⟩ => ?_
  subst he
  exact ChangeSpec.post_blind hp
end

section
variable {H : Type} {enc : TypeId × Value → H} {P : Program} {w : World} {base : Nat} {spare : Nat → Bool} {held : Bool}
theorem sl_reach22 {t e : TypeId} (ht : P.underlying t = some (.slice e)) (h8 : 8 ≤ P.bytesOf e) {n : Nat} {A : Option Addr} {k c : Nat} {y : DataW H × List MemPlace} (h : DataW.trod enc P w base spare held n t [.slice A k c] = some y) (hall : ∀ x ∈ y.1.weights P t, x ≤ 140737488351232) : k ≤ 35184372088832 := by
  rcases DataW.trod_slice ht h with ⟨hc, _⟩ | ⟨a, len, cap, elems, rest, m', _, hcs, hx, _, _, _, hle, _, _, _⟩
  · simp at hc
    omega
  · simp at hcs
    obtain ⟨_, rfl, _⟩ := hcs
    subst hx
    have h1 := hall ((elems.length + rest.length) * P.bytesOf e) (by
      unfold DataW.weights
      rw [ht]
      simp)
    have h2 := Nat.mul_le_mul_left (elems.length + rest.length) h8
    rw [hle] at h1 h2
    omega
theorem path_reach {tp : TypeId} (T : PtTy P tp) (h1 : 8 ≤ P.bytesOf T.tr) (h2 : 8 ≤ P.bytesOf T.ti) {n : Nat} {p : Pt} {y : DataW H × List MemPlace} (h : DataW.trod enc P w base spare held n tp p.cells = some y) (hall : ∀ x ∈ y.1.weights P tp, x ≤ 140737488351232) : p.cn ≤ 35184372088832 ∧ p.mn ≤ 35184372088832 ∧ p.rn ≤ 35184372088832 ∧ p.an ≤ 35184372088832 := by
  obtain ⟨xs, m, hm, hy, hlen, hxl, hfd⟩ := DataW.trod_struct T.hp h
  have hf := T.hpf
  have hb := T.hp
  generalize T.fp = fs at hf hxl hfd hb
  have hfs : fs.size = 7 := by have := congrArg List.length hf; simpa using this
  obtain ⟨l⟩ := fs
  match l, hfs, hf, hb with
  | [f0, f1, f2, f3, f4, f5, f6], _, hf, hb =>
    simp only [List.map_cons, List.map_nil, List.cons.injEq, Prod.mk.injEq, and_true] at hf
    obtain ⟨⟨t0, o0⟩, ⟨t1, o1⟩, ⟨t2, o2⟩, ⟨t3, o3⟩, ⟨t4, o4⟩, ⟨t5, o5⟩, ⟨t6, o6⟩⟩ := hf
    match xs, hxl, hy with
    | [y0, y1, y2, y3, y4, y5, y6], _, hy =>
      have e2 := hfd 2 f2 rfl
      have e3 := hfd 3 f3 rfl
      have e5 := hfd 5 f5 rfl
      have e6 := hfd 6 f6 rfl
      rw [o2, t2, T.hrs.2] at e2
      rw [o3, t3, T.his.2] at e3
      rw [o5, t5, T.hrs.2] at e5
      rw [o6, t6, T.his.2] at e6
      subst hy
      have hw : ∀ (j : Nat) (t : TypeId) (d : DataW H), [f0.type, f1.type, f2.type, f3.type, f4.type, f5.type, f6.type][j]? = some t → [y0.1, y1.1, y2.1, y3.1, y4.1, y5.1, y6.1][j]? = some d → ∀ x ∈ d.weights P t, x ≤ 140737488351232 := by
        intro j t d ht hd x hx
        refine hall x ?_
        simp only [List.map_cons, List.map_nil]
        unfold DataW.weights
        rw [hb]
        exact DataW.weights_mem_each ht hd x hx
      refine ⟨sl_reach22 T.his.1 h2 e3 (hw 3 _ _ (by simp [t3]) rfl), sl_reach22 T.his.1 h2 e6 (hw 6 _ _ (by simp [t6]) rfl), sl_reach22 T.hrs.1 h1 e2 (hw 2 _ _ (by simp [t2]) rfl), sl_reach22 T.hrs.1 h1 e5 (hw 5 _ _ (by simp [t5]) rfl)⟩
end
end Go.Proofs.YtoamnnonkhgpoaaGreatDoor
