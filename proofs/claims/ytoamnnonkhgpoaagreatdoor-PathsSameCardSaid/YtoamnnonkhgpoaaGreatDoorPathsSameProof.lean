/-
  Proved: for every input the law rowlock/rowlocklaw22.PathsSame returns true, and each argument reads afterwards as it read before. No condition beyond those of the row.
-/
import Derived.Test.YtoamnnonkhgpoaaGreatDoorRows
import Derived.WalkKit
import Derived.ProofKit
import Derived.OpenShut
import Derived.ShutString
import Derived.ChangeOld
import Derived.Below
import Derived.Test.YtoamnnonkhgpoaaGreatDoorOpen
import Derived.Test.YtoamnnonkhgpoaaGreatDoorCards
import Derived.Test.YtoamnnonkhgpoaaGreatDoorTie
import Derived.SevenTiedAt
import Derived.Lay
import Derived.LaidMore
import Derived.Shelf.Vars
import Derived.Test.YtoamnnonkhgpoaaGreatDoorP14
import Derived.Test.YtoamnnonkhgpoaaGreatDoorP15
namespace Go.Proofs.YtoamnnonkhgpoaaGreatDoor.pathsSame
open Go.ChangeShapes Go.WideShapes Go.ChangeAt Go.RowKit Go.Proofs.YtoamnnonkhgpoaaGreatDoor
open Go.ChangeMaps (open_string shut_string)
set_option linter.unusedVariables false

theorem own : ownKnob Tryz.prog.godebug = none := by kernel_rfl
theorem bytesT : Tryz.prog.bytesOf 44 = 64 := by kernel_rfl
theorem bytesR : 8 ≤ Tryz.prog.bytesOf 56 := by decide +kernel
theorem bytesI : 8 ≤ Tryz.prog.bytesOf 3 := by decide +kernel
theorem laidOut : laidOutB Tryz.prog = true := by kernel_rfl

set_option maxRecDepth 100000 in
theorem lifted (os : Os) (started : os.Started) (H : Type) (enc : TypeId × Value → H) :
    ReturnsInHanded {} Tryz.checked os 3 .any (fun w args => (Rows.pathsSameSpec.pre enc Tryz.prog Tryz.f3 Rows.pathsSameRow.domain false w args ∧ laidMetH Tryz.prog Rows.pathsSameRow.laid w) ∧ sizedMet enc Tryz.prog Tryz.f3 (OpenSpec.ofChange Rows.pathsSameSpec) false w args) (Rows.pathsSameSpec.post enc Tryz.prog Tryz.f3 false true false false) := by
  refine returns_door_sized (C := Tryz.checked) own started (by kernel_rfl) Tryz.func3
    (ChangeSpec.witness_shaped (enc := enc) (C := Tryz.checked) (os := os) (X := fun w _ => laidMetH Tryz.prog Rows.pathsSameRow.laid w) false (World.laidAll Tryz.prog os Rows.pathsSameRow.laid) #[.agg #[.slice none 0 0, .slice none 0 0], .agg #[.int .u8 0, .int .i64 0, .slice none 0 0, .slice none 0 0, .int .i64 0, .slice none 0 0, .slice none 0 0], .agg #[.int .u8 0, .int .i64 0, .slice none 0 0, .slice none 0 0, .int .i64 0, .slice none 0 0, .slice none 0 0]] 8 (World.laidAll_os _ _ _) (World.shaped_of_ZipB (by kernel_rfl) (by kernel_rfl)) (by kernel_rfl) (by kernel_rfl) (by kernel_rfl)
      (by rw [MakeChecks.laidMetH_plain _ _ _ (by kernel_rfl)]; exact laidMet_laidAll _ (by kernel_rfl) (by kernel_rfl))) ?_
  intro W base args ds gs before hval0 hW hL hsh hsz0
  have hszR : (DataW.weightsEach Tryz.prog (Tryz.f3.params.toList ++ Rows.pathsSameSpec.plain.varTypes Tryz.prog) (ds ++ gs)).all (· ≤ reachBytes) = true := hsz0
  have hval : ∀ (j : Nat) t v, Tryz.f3.params[j]? = some t → args[j]? = some v → Value.okWide Tryz.prog W .any base t v := hval0
  have hW' := hW
  obtain ⟨p, q, hA0, hV, rfl, hfz, hnd⟩ := hW
  have hA : DataW.TrodAll enc Tryz.prog W 0 (fun _ => true) true Tryz.f3.params.toList args.toList ds p := hA0
  rw [Tryz.params3] at hA hval hszR
  obtain ⟨v0, vs0, d0, ds0, p0, q0, hargs, rfl, rfl, h0, r0⟩ := trodAll_cons hA
  obtain ⟨v1, vs1, d1, ds1, p1, q1, rfl, rfl, rfl, h1, r1⟩ := trodAll_cons r0
  obtain ⟨v2, vs2, d2, ds2, p2, q2, rfl, rfl, rfl, h2, r2⟩ := trodAll_cons r1
  obtain ⟨rfl, rfl, rfl⟩ := trodAll_nil r2
  obtain rfl : args = #[v0, v1, v2] := by cases args; simp_all
  obtain ⟨rfl, rfl⟩ := trodVars_none hV
  have k0 := h0
  have lt0 : ∀ x ∈ p0, x.block < W.heap.size := by obtain ⟨m, hm⟩ := k0; exact DataW.trod_lt m _ _ _ hm
  obtain ⟨A, n, c, l, B, m, d, r, rfl, hnc, hmd, hr, hl, hx, hix, hin, hbu⟩ : ∃ (A : Option Addr) (n c : Nat) (l : List Tb) (B : Option Addr) (m d : Nat) (r : List Ix), v0 = .agg #[.slice A n c, .slice B m d] ∧ (n ≤ c ∧ c ≤ maxLen) ∧ (m ≤ d ∧ d ≤ maxLen) ∧ Reads W W.heap.size 5 A n (vTb l) ∧ (∀ t ∈ l, TbIn W W.heap.size t) ∧ Reads W W.heap.size 7 B m (vIx r) ∧ (∀ x ∈ r, x.ok) ∧ (∀ x ∈ r, IxIn W W.heap.size x) ∧ n ≤ 2199023255552 := by
    obtain ⟨fuel, hf⟩ := h0
    obtain ⟨cs, rfl, hsz⟩ := okWide_struct Tryz.underlying25 (hval 0 25 v0 rfl rfl)
    obtain ⟨A, n, c, l, B, m, d, r, ha, h1, h2, h3, h4, h5, h6, _, h8⟩ := trod_book Tryz.bkTy hf
    rw [ha] at hf
    exact ⟨A, n, c, l, B, m, d, r, by cases cs; simp_all [Value.cells], h1, h2, h3, h4, h5, h6, h8, book_reach Tryz.bkTy bytesT hf fun x hx => by
      have h := List.all_eq_true.1 hszR x (DataW.weights_mem_each (j := 0) (t := 25) rfl rfl x hx)
      exact of_decide_eq_true h⟩
  have k1 := h1
  have lt1 : ∀ x ∈ p1, x.block < W.heap.size := by obtain ⟨m, hm⟩ := k1; exact DataW.trod_lt m _ _ _ hm
  obtain ⟨a1, rfl, w1, z1⟩ : ∃ a : Pt, v1 = a.agg ∧ PtIn W W.heap.size a ∧ (a.cn ≤ 35184372088832 ∧ a.mn ≤ 35184372088832 ∧ a.rn ≤ 35184372088832 ∧ a.an ≤ 35184372088832) := by
    obtain ⟨fuel, hf⟩ := h1
    obtain ⟨cs, rfl, hsz⟩ := okWide_struct Tryz.underlying29 (hval 1 29 v1 rfl rfl)
    obtain ⟨a, ha, hok⟩ := trod_pt Tryz.ptTy hf
    rw [ha] at hf
    refine ⟨a, ?_, hok, path_reach Tryz.ptTy bytesR bytesI hf fun x hx => ?_⟩
    · unfold Pt.agg
      cases cs
      simp_all [Value.cells, Pt.cells]
    · have h := List.all_eq_true.1 hszR x (DataW.weights_mem_each (j := 1) (t := 29) rfl rfl x hx)
      exact of_decide_eq_true h
  have k2 := h2
  have lt2 : ∀ x ∈ p2, x.block < W.heap.size := by obtain ⟨m, hm⟩ := k2; exact DataW.trod_lt m _ _ _ hm
  obtain ⟨a2, rfl, w2, z2⟩ : ∃ a : Pt, v2 = a.agg ∧ PtIn W W.heap.size a ∧ (a.cn ≤ 35184372088832 ∧ a.mn ≤ 35184372088832 ∧ a.rn ≤ 35184372088832 ∧ a.an ≤ 35184372088832) := by
    obtain ⟨fuel, hf⟩ := h2
    obtain ⟨cs, rfl, hsz⟩ := okWide_struct Tryz.underlying29 (hval 2 29 v2 rfl rfl)
    obtain ⟨a, ha, hok⟩ := trod_pt Tryz.ptTy hf
    rw [ha] at hf
    refine ⟨a, ?_, hok, path_reach Tryz.ptTy bytesR bytesI hf fun x hx => ?_⟩
    · unfold Pt.agg
      cases cs
      simp_all [Value.cells, Pt.cells]
    · have h := List.all_eq_true.1 hszR x (DataW.weights_mem_each (j := 2) (t := 29) rfl rfl x hx)
      exact of_decide_eq_true h
  clear hA0 hval0
  refine (pathsSame_any A n c l B m d r a1 a2 W hr hl hx hbu (Nat.le_trans hmd.1 hmd.2) hix hin w1 w2 z1 z2).mono fun e W' ⟨he, bel⟩ => ?_
  subst he
  exact ⟨_, rfl, _, _, _, [], _, [], hW', trodAll_mk1 (shut_bool Tryz.underlying4 _), (trodAll_cons_mk (Below.trod laidOut (by kernel_rfl) (of_decide_eq_true (by kernel_rfl)) k0 bel lt0) (trodAll_cons_mk (Below.trod laidOut (by kernel_rfl) (of_decide_eq_true (by kernel_rfl)) k1 bel lt1) (trodAll_cons_mk (Below.trod laidOut (by kernel_rfl) (of_decide_eq_true (by kernel_rfl)) k2 bel lt2) trodAll_mk0))), rfl, bel.frame _, fun h => by cases h⟩

theorem over : Rows.pathsSameRow.holds Tryz.pinned (OpenSpec.ofChange Rows.pathsSameSpec) :=
  OpenClaim.holds_of_wide 3 Tryz.f3 rfl rfl rfl rfl rfl rfl rfl ⟨rfl, rfl, rfl, rfl, rfl⟩ rfl rfl rfl rfl rfl (by kernel_rfl) Tryz.func3 (by kernel_rfl)
    (of_decide_eq_true (by kernel_rfl)) (by unfold Func.isWrapper; first | (rw [if_pos (by decide +kernel)]; kernel_rfl) | (rw [if_neg (by decide +kernel)]; exact ⟨rfl, rfl⟩))
    (fun os started H enc _ => lifted os started H enc)

theorem said : Rows.PathsSameSaid := over

theorem proved : Rows.PathsSameCardSaid :=
  Claim7.holds_tied_plain_at .later [] [.data, .pinned] true (true, "ea41980fb8b8bec5b005eb6ecc0b0e7c947b226c3eab48f56c674e1d484d69cc") false
    said (fun _ h => by cases h) (by kernel_rfl) (fun _ h => by cases h) pathsSame_row_tie rfl ⟨rfl, rfl⟩ (by kernel_rfl) rfl
    (fun f fn hf hfn => by
      obtain rfl : f = 3 := Option.some.inj ((show Tryz.prog.funcNamed "rowlock/rowlocklaw22.PathsSame" = some 3 by kernel_rfl).symm.trans hf) |>.symm
      obtain rfl : fn = Tryz.f3 := (Option.some.inj (Tryz.func3.symm.trans hfn)).symm
      exact ⟨by kernel_rfl, fun j t ht => by
        rw [Tryz.params3] at ht
        have hm : t ∈ [25, 29, 29] := by simpa using Array.mem_of_getElem? ht
        have hall : ([25, 29, 29].all fun u => !Tryz.prog.wantsStandIn u) = true := by kernel_rfl
        exact (show Tryz.prog.wantsStandIn t = false by simpa using List.all_eq_true.1 hall t hm)⟩)
    (by kernel_rfl)
end Go.Proofs.YtoamnnonkhgpoaaGreatDoor.pathsSame
