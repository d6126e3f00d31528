/-
  Proved: for every input the law rowlock/rowlocklaw30.ExplainAnswer returns true, and each argument reads afterwards as it read before. No condition beyond those of the row.
-/
import Derived.Test.YtblpflobpffjnaaDoorRows
import Derived.WalkKit
import Derived.ProofKit
import Derived.OpenShut
import Derived.ShutString
import Derived.ChangeOld
import Derived.Below
import Derived.Test.YtblpflobpffjnaaDoorOpen
import Derived.Test.YtblpflobpffjnaaDoorDoor
import Derived.Test.YtblpflobpffjnaaDoorCards
import Derived.Test.YtblpflobpffjnaaDoorTie
import Derived.SevenTiedAt
import Derived.Lay
import Derived.LaidMore
import Derived.Shelf.Vars
import Derived.Test.YtblpflobpffjnaaDoorWv
namespace Go.Proofs.YtblpflobpffjnaaDoor.explainAnswer
open Go.ChangeShapes Go.WideShapes Go.ChangeAt Go.RowKit Go.Proofs.YtblpflobpffjnaaDoor
open Go.ChangeMaps (open_string shut_string)
set_option linter.unusedVariables false

theorem own : ownKnob Tryd.prog.godebug = none := by kernel_rfl
theorem laidOut : laidOutB Tryd.prog = true := by kernel_rfl

set_option maxRecDepth 100000 in
theorem lifted (os : Os) (started : os.Started) (H : Type) (enc : TypeId × Value → H) :
    ReturnsInHanded {} Tryd.checked os 4 .any (fun w args => (Rows.explainAnswerSpec.pre enc Tryd.prog Tryd.f4 Rows.explainAnswerRow.domain false w args ∧ laidMetH Tryd.prog Rows.explainAnswerRow.laid w) ∧ sizedMet enc Tryd.prog Tryd.f4 (OpenSpec.ofChange Rows.explainAnswerSpec) false w args) (Rows.explainAnswerSpec.post enc Tryd.prog Tryd.f4 false true false false) := by
  refine returns_door_sized (C := Tryd.checked) own started (by kernel_rfl) Tryd.func4
    (ChangeSpec.witness_shaped (enc := enc) (C := Tryd.checked) (os := os) (X := fun w _ => laidMetH Tryd.prog Rows.explainAnswerRow.laid w) false (World.laidAll Tryd.prog os Rows.explainAnswerRow.laid) #[.agg #[.slice none 0 0, .slice none 0 0]] 8 (World.laidAll_os _ _ _) (World.shaped_of_ZipB (by kernel_rfl) (by kernel_rfl)) (by kernel_rfl) (by kernel_rfl) (by kernel_rfl)
      (by rw [MakeChecks.laidMetH_plain _ _ _ (by kernel_rfl)]; exact laidMet_laidAll _ (by kernel_rfl) (by kernel_rfl))) ?_
  intro W base args ds gs before hval0 hW hL hsh hsz0
  have hszR : (DataW.weightsEach Tryd.prog (Tryd.f4.params.toList ++ Rows.explainAnswerSpec.plain.varTypes Tryd.prog) (ds ++ gs)).all (· ≤ reachBytes) = true := hsz0
  have hm : MaxC W := cell_of_shapedOpen_int (P := Tryd.prog) (g := 0) (t := 3) (zero := #[.int .i64 0]) hsh (of_decide_eq_true (by kernel_rfl)) (by kernel_rfl) rfl (by kernel_rfl) (by kernel_rfl) Tryd.underlying3
  have hval : ∀ (j : Nat) t v, Tryd.f4.params[j]? = some t → args[j]? = some v → Value.okWide Tryd.prog W .any base t v := hval0
  have hW' := hW
  obtain ⟨p, q, hA0, hV, rfl, hfz, hnd⟩ := hW
  have hA : DataW.TrodAll enc Tryd.prog W 0 (fun _ => true) true Tryd.f4.params.toList args.toList ds p := hA0
  rw [Tryd.params4] at hA hval hszR
  obtain ⟨v0, vs0, d0, ds0, p0, q0, hargs, rfl, rfl, h0, r0⟩ := trodAll_cons hA
  obtain ⟨rfl, rfl, rfl⟩ := trodAll_nil r0
  obtain rfl : args = #[v0] := by cases args; simp_all
  obtain ⟨rfl, rfl⟩ := trodVars_none hV
  have k0 := h0
  have lt0 : ∀ x ∈ p0, x.block < W.heap.size := by obtain ⟨m, hm⟩ := k0; exact DataW.trod_lt m _ _ _ hm
  obtain ⟨A, n, c, names, R, rn, rc, rows, rfl, hnn, hrn, hN, hl, hR, he⟩ : ∃ (NA : Option Addr) (nn nc : Nat) (names : List (List UInt8)) (RA : Option Addr) (rn rc : Nat) (rows : List Rw), v0 = .agg #[.slice NA nn nc, .slice RA rn rc] ∧ nn ≤ 8796093022208 ∧ rn ≤ maxLen ∧ Reads W W.heap.size 1 NA nn (vStr names) ∧ (∀ x ∈ names, x.length ≤ maxLen) ∧
      Reads W W.heap.size 1 RA rn (vRw rows) ∧ (∀ r ∈ rows, Reads W W.heap.size 3 r.A r.n (vV r.l) ∧ r.n ≤ maxLen ∧ ∀ v ∈ r.l, v.ok) := by
    obtain ⟨fuel, hf⟩ := h0
    obtain ⟨cs, rfl, hsz⟩ := okWide_struct Tryd.underlying42 (hval 0 42 v0 rfl rfl)
    obtain ⟨NA, nn, nc, names, RA, rn, rc, rows, ha, h1, h2, h3, h4, h5, h6⟩ := trod_ans Tryd.anTy hf (fun x hx => by
      have h := List.all_eq_true.1 hszR x (DataW.weights_mem_each (j := 0) (t := 42) rfl rfl x hx)
      exact of_decide_eq_true h)
    exact ⟨NA, nn, nc, names, RA, rn, rc, rows, by cases cs; simp_all [Value.cells], h1, h2, h3, h4, h5, h6⟩
  clear hA0 hval0
  refine (explainAnswer_any A n c names R rn rc rows W (vm_of hm hL) hN hl hnn hR he hrn).mono fun e W' ⟨he, bel⟩ => ?_
  subst he
  exact ⟨_, rfl, _, _, _, [], _, [], hW', trodAll_mk1 (shut_bool Tryd.underlying4 _), (trodAll_cons_mk (Below.trod laidOut (by kernel_rfl) (of_decide_eq_true (by kernel_rfl)) k0 bel lt0) trodAll_mk0), rfl, bel.frame _, fun h => by cases h⟩

theorem over : Rows.explainAnswerRow.holds Tryd.pinned (OpenSpec.ofChange Rows.explainAnswerSpec) :=
  OpenClaim.holds_of_wide 4 Tryd.f4 rfl rfl rfl rfl rfl rfl rfl ⟨rfl, rfl, rfl, rfl, rfl⟩ rfl rfl rfl rfl rfl (by kernel_rfl) Tryd.func4 (by kernel_rfl)
    (of_decide_eq_true (by kernel_rfl)) (by unfold Func.isWrapper; first | (rw [if_pos (by decide +kernel)]; kernel_rfl) | (rw [if_neg (by decide +kernel)]; exact ⟨rfl, rfl⟩))
    (fun os started H enc _ => lifted os started H enc)

theorem said : Rows.ExplainAnswerSaid := over

theorem proved : Rows.ExplainAnswerCardSaid :=
  Claim7.holds_tied_plain_at .later [] [.data, .data, .data, .data, .pinned] true (true, "5d6ce88ed599b38165dec0373424f649578fa4fe815a0bcc6b2f8fbf937ecc30") true
    said (fun _ h => by cases h) (by kernel_rfl) (fun _ h => by cases h) explainAnswer_row_tie rfl ⟨rfl, rfl⟩ (by kernel_rfl) rfl
    (fun f fn hf hfn => by
      obtain rfl : f = 4 := Option.some.inj ((show Tryd.prog.funcNamed "rowlock/rowlocklaw30.ExplainAnswer" = some 4 by kernel_rfl).symm.trans hf) |>.symm
      obtain rfl : fn = Tryd.f4 := (Option.some.inj (Tryd.func4.symm.trans hfn)).symm
      exact ⟨by kernel_rfl, fun j t ht => by
        rw [Tryd.params4] at ht
        have hm : t ∈ [42] := by simpa using Array.mem_of_getElem? ht
        have hall : ([42].all fun u => !Tryd.prog.wantsStandIn u) = true := by kernel_rfl
        exact (show Tryd.prog.wantsStandIn t = false by simpa using List.all_eq_true.1 hall t hm)⟩)
    (by kernel_rfl)
end Go.Proofs.YtblpflobpffjnaaDoor.explainAnswer
