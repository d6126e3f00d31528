/-
  Proved: for every input whose reading is of bulk at most 1048576 the law ExplainPlan returns true, and each argument reads afterwards as it read before. No condition beyond those of the row of the second form.
-/
import Derived.Test.YtblpflobpffjnaaDoorRows
import Derived.WalkKit
import Derived.ProofKit
import Derived.OpenShut
import Derived.ShutString
import Derived.ChangeOld
import Derived.Below
import Derived.Test.YtblpflobpffjnaaDoorOpen
import Derived.Test.YtblpflobpffjnaaDoorCards
import Derived.Test.YtblpflobpffjnaaDoorTie
import Derived.SevenTiedAt
import Derived.Lay
import Derived.LaidMore
import Derived.Shelf.Vars
import Derived.Test.YtblpflobpffjnaaDoorW7
namespace Go.Proofs.YtblpflobpffjnaaDoor.explainPlan
open Go.ChangeShapes Go.WideShapes Go.ChangeAt Go.RowKit Go.Proofs.YtblpflobpffjnaaDoor
open Go.ChangeMaps (open_string shut_string)
set_option linter.unusedVariables false
set_option linter.unusedSimpArgs false

theorem own : ownKnob Tryd.prog.godebug = none := by kernel_rfl
theorem laidOut : laidOutB Tryd.prog = true := by kernel_rfl

set_option maxRecDepth 100000 in
theorem lifted (os : Os) (started : os.Started) (H : Type) (enc : TypeId × Value → H) (F : Stop.Interp) :
    ReturnsInHanded {} Tryd.checked os 3 .any (fun w args => ((Rows.OpenSpec.upto Rows.explainPlanSpec).pre enc Tryd.prog Tryd.f3 Rows.explainPlanUptoRow.domain false w args ∧ laidMetH Tryd.prog Rows.explainPlanUptoRow.laid w) ∧ sizedMet enc Tryd.prog Tryd.f3 (Rows.OpenSpec.upto Rows.explainPlanSpec) false w args) (((Rows.OpenSpec.upto Rows.explainPlanSpec).at F).post enc Tryd.prog Tryd.f3 false true false false) := by
  refine returns_door_cond (C := Tryd.checked) (s := Rows.OpenSpec.upto Rows.explainPlanSpec) (k := Rows.uptoSmall) rfl own started (by kernel_rfl) Tryd.func3
    (witness_cond (enc := enc) (C := Tryd.checked) (os := os) (s := Rows.OpenSpec.upto Rows.explainPlanSpec) (k := Rows.uptoSmall) rfl (X := fun w _ => laidMetH Tryd.prog Rows.explainPlanUptoRow.laid w) false (World.laidAll Tryd.prog os Rows.explainPlanUptoRow.laid) #[.agg #[.slice none 0 0, .slice none 0 0], .agg #[.bool false, .slice none 0 0, .slice none 0 0, .slice none 0 0, .slice none 0 0, .slice none 0 0, .bool false, .slice none 0 0, .slice none 0 0, .slice none 0 0, .int .i64 0], .agg #[.slice none 0 0, .bool false]] 8 (World.laidAll_os _ _ _) (World.shaped_of_ZipB (by kernel_rfl) (by kernel_rfl)) (by kernel_rfl)
      (x := ([.agg [.nil, .nil], .agg [.lit (.bool false), .nil, .nil, .nil, .nil, .nil, .lit (.bool false), .nil, .nil, .nil, .lit (.int .i64 0)], .agg [.nil, .lit (.bool false)]], [], [])) (by kernel_rfl) rfl (by kernel_rfl) (by kernel_rfl)
      (by rw [MakeChecks.laidMetH_plain _ _ _ (by kernel_rfl)]; exact laidMet_laidAll _ (by kernel_rfl) (by kernel_rfl))) ?_
  intro W base args ds gs before hval0 hW hL hsh hk
  have hval : ∀ (j : Nat) t v, Tryd.f3.params[j]? = some t → args[j]? = some v → Value.okWide Tryd.prog W .any base t v := hval0
  have hW' := hW
  obtain ⟨p, q, hA0, hV, rfl, hfz, hnd⟩ := hW
  have hA : DataW.TrodAll enc Tryd.prog W 0 (fun _ => true) true Tryd.f3.params.toList args.toList ds p := hA0
  rw [Tryd.params3] at hA hval
  obtain ⟨v0, vs0, d0, ds0, p0, q0, hargs, rfl, rfl, h0, r0⟩ := trodAll_cons hA
  obtain ⟨v1, vs1, d1, ds1, p1, q1, rfl, rfl, rfl, h1, r1⟩ := trodAll_cons r0
  obtain ⟨v2, vs2, d2, ds2, p2, q2, rfl, rfl, rfl, h2, r2⟩ := trodAll_cons r1
  obtain ⟨rfl, rfl, rfl⟩ := trodAll_nil r2
  obtain rfl : args = #[v0, v1, v2] := by cases args; simp_all
  obtain ⟨rfl, rfl⟩ := trodVars_none hV
  have k0 := h0
  have lt0 : ∀ x ∈ p0, x.block < W.heap.size := by obtain ⟨m, hm⟩ := k0; exact DataW.trod_lt m _ _ _ hm
  have k1 := h1
  have lt1 : ∀ x ∈ p1, x.block < W.heap.size := by obtain ⟨m, hm⟩ := k1; exact DataW.trod_lt m _ _ _ hm
  have k2 := h2
  have lt2 : ∀ x ∈ p2, x.block < W.heap.size := by obtain ⟨m, hm⟩ := k2; exact DataW.trod_lt m _ _ _ hm
  have hbulk : Rows.uptoBulk d0 ≤ 1048576 := by
    have h := of_decide_eq_true hk
    simp only [List.append_nil, Rows.uptoBulkAll] at h
    omega
  obtain ⟨A, n, c, l, B, m, d, r, rfl, hnc, hmd, hr, hl, hx, hix, hn, htn, hxn⟩ : ∃ (A : Option Addr) (n c : Nat) (l : List Tb) (B : Option Addr) (m d : Nat) (r : List Ix), v0 = .agg #[.slice A n c, .slice B m d] ∧ (n ≤ c ∧ c ≤ maxLen) ∧ (m ≤ d ∧ d ≤ maxLen) ∧ Reads W W.heap.size 5 A n (vTb l) ∧ (∀ t ∈ l, TbIn W W.heap.size t) ∧ Reads W W.heap.size 7 B m (vIx r) ∧ (∀ x ∈ r, x.ok) ∧ n ≤ 1048576 ∧ (∀ t ∈ l, t.nm.size ≤ 1048576) ∧ (∀ x ∈ r, x.nm.size ≤ 1048576) := by
    obtain ⟨fuel, hf⟩ := h0
    obtain ⟨cs, rfl, hsz⟩ := okWide_struct Tryd.underlying25 (hval 0 25 v0 rfl rfl)
    obtain ⟨A, n, c, l, B, m, d, r, ha, g1, g2, g3, g4, g5, g6, g7, g8⟩ := trod_book Tryd.bkTy hf
    rw [ha] at hf
    have hb := book_bulk Tryd.bkTy hf
    refine ⟨A, n, c, l, B, m, d, r, by cases cs; simp_all [Value.cells], g1, g2, g3, g4, g5, g6, Nat.le_trans hb.1.1 hbulk, fun t ht => ?_, fun x hx => ?_⟩
    · obtain ⟨j, hj, he⟩ := List.mem_iff_getElem.1 ht
      have hln : l.length = n := by have := g3.1; rw [vTb_len] at this; omega
      obtain ⟨ad, t', hA, _, ht', c0, -⟩ := g3.tb_ (k := j) (by omega)
      rw [List.getElem?_eq_getElem hj, he] at ht'
      injection ht' with ht'
      subst ht'
      exact Nat.le_trans (hb.1.2 ad hA j (by omega) _ c0) hbulk
    · obtain ⟨j, hj, he⟩ := List.mem_iff_getElem.1 hx
      have hln : r.length = m := by have := g5.1; rw [vIx_len] at this; omega
      obtain ⟨ad, t', hA, _, ht', c0, -⟩ := g5.ix_ (k := j) (by omega)
      rw [List.getElem?_eq_getElem hj, he] at ht'
      injection ht' with ht'
      subst ht'
      exact Nat.le_trans (hb.2 ad hA j (by omega) _ c0) hbulk
  obtain ⟨K, kn, kc, ks, x0, x2, x3, x4, x5, x6, x7, x8, x9, x10, rfl, hkn, hK, hkb⟩ : ∃ (K : Option Addr) (kn kc : Nat) (ks : List Int) (x0 x2 x3 x4 x5 x6 x7 x8 x9 x10 : Value), v1 = .agg #[x0, .slice K kn kc, x2, x3, x4, x5, x6, x7, x8, x9, x10] ∧ kn ≤ maxLen ∧ Reads W W.heap.size 1 K kn (vI64 ks) ∧ ∀ z ∈ ks, I64 z := by
    obtain ⟨fuel, hf⟩ := h1
    obtain ⟨cs, rfl, hsz⟩ := okWide_struct Tryd.underlying32 (hval 1 32 v1 rfl rfl)
    obtain ⟨K, kn, kc, ks, x0, x2, x3, x4, x5, x6, x7, x8, x9, x10, ha, g1, g2, g3⟩ := trod_block Tryd.plTy hf
    exact ⟨K, kn, kc, ks, x0, x2, x3, x4, x5, x6, x7, x8, x9, x10, by cases cs; simp_all [Value.cells], g1, g2, g3⟩
  obtain ⟨P, pn, pc, sps, srt, rfl, hpn, hP, hok⟩ : ∃ (P : Option Addr) (pn pc : Nat) (sps : List Sp) (srt : Bool), v2 = .agg #[.slice P pn pc, .bool srt] ∧ pn ≤ maxLen ∧ Reads W W.heap.size 11 P pn (vSp sps) ∧ ∀ x ∈ sps, x.ok := by
    obtain ⟨fuel, hf⟩ := h2
    obtain ⟨cs, rfl, hsz⟩ := okWide_struct Tryd.underlying35 (hval 2 35 v2 rfl rfl)
    obtain ⟨P, pn, pc, sps, srt, ha, g1, g2, g3⟩ := trod_plan Tryd.plTy hf
    exact ⟨P, pn, pc, sps, srt, by cases cs; simp_all [Value.cells], g1, g2, g3⟩
  clear hA0 hval0
  refine (explainPlan_any A n c l B m d r K kn kc ks x0 x2 x3 x4 x5 x6 x7 x8 x9 x10 P pn pc sps srt W (vt_of hL) ⟨hr, hx, hK, Nat.le_trans hnc.1 hnc.2, Nat.le_trans hmd.1 hmd.2, hkn, hkb, htn, hxn⟩ hl hix (by omega) hP hok hpn).mono fun e W' ⟨he, bel⟩ => ?_
  subst he
  exact ⟨_, rfl, _, _, _, [], _, [], hW', trodAll_mk1 (shut_bool Tryd.underlying4 _), (trodAll_cons_mk (Below.trod laidOut (by kernel_rfl) (of_decide_eq_true (by kernel_rfl)) k0 bel lt0) (trodAll_cons_mk (Below.trod laidOut (by kernel_rfl) (of_decide_eq_true (by kernel_rfl)) k1 bel lt1) (trodAll_cons_mk (Below.trod laidOut (by kernel_rfl) (of_decide_eq_true (by kernel_rfl)) k2 bel lt2) trodAll_mk0))), rfl, bel.frame _, fun h => by cases h⟩

theorem over : Rows.explainPlanUptoRow.holds Tryd.pinned (Rows.OpenSpec.upto Rows.explainPlanSpec) :=
  OpenClaim.holds_of_cond 3 Tryd.f3 rfl rfl rfl rfl rfl rfl rfl ⟨rfl, rfl, rfl, rfl, rfl⟩ rfl rfl rfl rfl rfl (by kernel_rfl) Tryd.func3 (by kernel_rfl)
    (of_decide_eq_true (by kernel_rfl)) (by unfold Func.isWrapper; first | (rw [if_pos (by decide +kernel)]; kernel_rfl) | (rw [if_neg (by decide +kernel)]; exact ⟨rfl, rfl⟩))
    (fun os started H enc _ F => lifted os started H enc F)

theorem said : Rows.ExplainPlanUptoSaid := over

theorem proved : Rows.ExplainPlanUptoCardSaid :=
  Claim7.holds_tied_plain_at .later [] [.data, .data, .data] true (true, "5d6ce88ed599b38165dec0373424f649578fa4fe815a0bcc6b2f8fbf937ecc30") true
    said (fun _ h => by cases h) (by kernel_rfl) (fun _ h => by cases h) explainPlanUpto_row_tie rfl ⟨rfl, rfl⟩ (by kernel_rfl) rfl
    (fun f fn hf hfn => by
      obtain rfl : f = 3 := Option.some.inj ((show Tryd.prog.funcNamed "rowlock/rowlocklaw30.ExplainPlan" = some 3 by kernel_rfl).symm.trans hf) |>.symm
      obtain rfl : fn = Tryd.f3 := (Option.some.inj (Tryd.func3.symm.trans hfn)).symm
      exact ⟨by kernel_rfl, fun j t ht => by
        rw [Tryd.params3] at ht
        have hm : t ∈ [25, 32, 35] := by simpa using Array.mem_of_getElem? ht
        have hall : ([25, 32, 35].all fun u => !Tryd.prog.wantsStandIn u) = true := by kernel_rfl
        exact (show Tryd.prog.wantsStandIn t = false by simpa using List.all_eq_true.1 hall t hm)⟩)
    (by kernel_rfl)
end Go.Proofs.YtblpflobpffjnaaDoor.explainPlan
