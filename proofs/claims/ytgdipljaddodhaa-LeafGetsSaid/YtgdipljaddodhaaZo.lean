/-
  Heads of pages: the reference's Get.
-/
import Derived.Test.YtgdipljaddodhaaZn
namespace Go.Proofs.Ytgdipljaddodhaa
set_option linter.unusedSimpArgs false
set_option linter.unusedVariables false
open Go.RowKit

set_option maxRecDepth 100000 in
set_option maxHeartbeats 2000000 in
theorem rhget_any (l : List UInt8) (hn : l.length ≤ 1000000000) (w : World) : Calls Try.prog 44 #[.string (str l)] w (RetHd w l) := by
  have hz := str_size l
  by_cases h5 : l.length = 512
  rotate_left
  · have ho : hdOk l = false := by unfold hdOk; simp [h5]
    have hv : hdV l = .agg #[.int .u8 0, .int .u16 0, .int .u32 0] := by unfold hdV; rw [ho]; rfl
    have HH := Lib.hid (And.intro ho hv)
    have e1 : ((str l).size == 512) = false := by rw [hz]; simpa using h5
    have e2 : (((str l).size : Int) == 512) = false := by rw [hz]; simp; omega
    have e3 : ((str l).size != 512) = true := by rw [hz]; simpa using h5
    have e4 : (((str l).size : Int) != 512) = true := by rw [hz]; simp; omega
    clear ho hv h5 hz
    go_enter Try.func44, Try.ntmps44
    go_wp2
    exact bodyPost_ret (v := .tuple #[.agg #[.int .u8 0, .int .u16 0, .int .u32 0], .bool false]) (by simp [results, Try.results44, go_sem]) rfl ⟨by rw [HH.out.1, HH.out.2], ball (Below.refl _ _) _⟩
  · have hz5 : (str l).size = 512 := by rw [hz, h5]
    have g1 : 1 < (str l).size := by omega
    have g0 : 0 < (str l).size := by omega
    have hx1 : l[1]? = some l[1] := List.getElem?_eq_getElem (by omega)
    have hx0 : l[0]? = some l[0] := List.getElem?_eq_getElem (by omega)
    have hg1 := str_get g1 hx1
    have hg0 := str_get g0 hx0
    obtain ⟨x1, hx1e⟩ : ∃ x, l[1] = x := ⟨_, rfl⟩
    obtain ⟨x0, hx0e⟩ : ∃ x, l[0] = x := ⟨_, rfl⟩
    rw [hx1e] at hx1 hg1
    rw [hx0e] at hx0 hg0
    by_cases hz1 : x1 = 0
    rotate_left
    · have hz' : ¬ x1.toNat = 0 := fun e => hz1 (UInt8.toNat_inj.1 e)
      have ho : hdOk l = false := by unfold hdOk; rw [hx1]; simp [hz1]
      have hv : hdV l = .agg #[.int .u8 0, .int .u16 0, .int .u32 0] := by unfold hdV; rw [ho]; rfl
      have HH := Lib.hid (And.intro ho hv)
      have e1 : ((str l)[1].toNat == 0) = false := by rw [hg1]; simpa using hz'
      have e2 : (((str l)[1].toNat : Int) == 0) = false := by rw [hg1]; simp; omega
      have e3 : ((str l)[1].toNat != 0) = true := by rw [hg1]; simpa using hz'
      have e4 : (((str l)[1].toNat : Int) != 0) = true := by rw [hg1]; simp; omega
      clear ho hv hx1 hx0 hg1 hg0 hz1 hz' hz hx1e hx0e
      go_enter Try.func44, Try.ntmps44
      go_wp2
      exact bodyPost_ret (v := .tuple #[.agg #[.int .u8 0, .int .u16 0, .int .u32 0], .bool false]) (by simp [results, Try.results44, go_sem]) rfl ⟨by rw [HH.out.1, HH.out.2], ball (Below.refl _ _) _⟩
    · subst hz1
      have ho : hdOk l = true := by unfold hdOk; rw [h5, hx1]; rfl
      have hK : hdK l = x0.toNat := by unfold hdK; rw [List.getD_eq_getElem?_getD, hx0]; rfl
      have e0 : (str l)[1].toNat = 0 := by rw [hg1]; rfl
      have e00 : (((str l)[0].toNat : Nat) : Int) = (x0.toNat : Int) := by rw [hg0]
      have sl1 : ∀ W, (Instr.slice 9 (.string (str l)) (some (.int .i64 2)) (some (.int .i64 4)) none).run Try.prog W = .ok (.string (str ((l.drop 2).take 2))) W := cut_mid (P := Try.prog) Try.underlying9 l ((l.drop 2).take 2) .i64 .i64 2 4 (by omega) (by omega) (by omega) rfl
      have sl2 : ∀ W, (Instr.slice 9 (.string (str l)) (some (.int .i64 4)) (some (.int .i64 8)) none).run Try.prog W = .ok (.string (str ((l.drop 4).take 4))) W := cut_mid (P := Try.prog) Try.underlying9 l ((l.drop 4).take 4) .i64 .i64 4 8 (by omega) (by omega) (by omega) rfl
      have VC := Lib.hid fun W => dval_any ((l.drop 2).take 2) (by rw [List.length_take]; omega) W
      have VN := Lib.hid fun W => dval_any ((l.drop 4).take 4) (by rw [List.length_take]; omega) W
      have hCb := beVal_lt_of (l := (l.drop 2).take 2) (n := 2) (by rw [List.length_take]; omega)
      have hNb := beVal_lt_of (l := (l.drop 4).take 4) (n := 4) (by rw [List.length_take]; omega)
      have hv : hdV l = .agg #[.int .u8 (x0.toNat : Int), .int .u16 ((beVal ((l.drop 2).take 2) : Nat) : Int), .int .u32 ((beVal ((l.drop 4).take 4) : Nat) : Int)] := by unfold hdV; rw [ho, if_pos rfl, hK]; rfl
      have HH := Lib.hid (And.intro ho hv)
      obtain ⟨C, hC⟩ : ∃ C, beVal ((l.drop 2).take 2) = C := ⟨_, rfl⟩
      obtain ⟨Nn, hNn⟩ : ∃ N, beVal ((l.drop 4).take 4) = N := ⟨_, rfl⟩
      rw [hC] at VC hCb HH
      rw [hNn] at VN hNb HH
      have hCI : (C : Int) < 65536 := by omega
      have hNI : (Nn : Int) < 4294967296 := by omega
      have wC : IntKind.u16.wrap (C : Int) = (C : Int) := by simp [IntKind.wrap, IntKind.bits, IntKind.signed]; omega
      have wN : IntKind.u32.wrap (Nn : Int) = (Nn : Int) := by simp [IntKind.wrap, IntKind.bits, IntKind.signed]; omega
      clear ho hv hx1 hx0 hg1 hg0 hz hx1e hx0e hC hNn hCb hNb hK h5 hCI hNI
      go_enter Try.func44, Try.ntmps44
      go_wp2
      refine wp_region_held_drew (S := (fun w' => w.heap.size ≤ w'.heap.size)) (by kernel_rfl) (by simp) (fun hHeld => ?_)
      try dsimp only at hHeld
      refine wpAnyH_take (i := 0) (v := ?_) rfl (by kernel_rfl) (by kernel_rfl) (by kernel_rfl) (fun _ _ _ h => h) (Or.inl ⟨rfl, ?_⟩) hHeld ?_
      rotate_left
      focus (intro wx hSw; (try dsimp only at hSw); (try go_split_ands); go_simp; (try with_reducible rfl))
      try simp only [Act.put, List.getElem_toArray, List.getElem_cons_succ, List.getElem_cons_zero, List.setIfInBounds_toArray, List.set_cons_zero, List.set_cons_succ]
      refine wpAnyH_take (i := 1) (v := ?_) rfl (by kernel_rfl) (by kernel_rfl) (by kernel_rfl) (fun _ _ _ h => h) (Or.inl ⟨rfl, ?_⟩) hHeld ?_
      rotate_left
      focus (intro wx hSw; (try dsimp only at hSw); (try go_split_ands); go_simp; (try with_reducible rfl))
      try simp only [Act.put, List.getElem_toArray, List.getElem_cons_succ, List.getElem_cons_zero, List.setIfInBounds_toArray, List.set_cons_zero, List.set_cons_succ]
      refine wpAnyH_take (i := 2) (v := ?_) rfl (by kernel_rfl) (by kernel_rfl) (by kernel_rfl) (fun _ _ _ h => h) (Or.inl ⟨rfl, ?_⟩) hHeld ?_
      rotate_left
      focus (intro wx hSw; (try dsimp only at hSw); (try go_split_ands); go_simp; (try with_reducible rfl))
      try simp only [Act.put, List.getElem_toArray, List.getElem_cons_succ, List.getElem_cons_zero, List.setIfInBounds_toArray, List.set_cons_zero, List.set_cons_succ]
      refine wpAnyH_take (i := 3) (v := ?_) rfl (by kernel_rfl) (by kernel_rfl) (by kernel_rfl) (fun _ _ _ h => h) (Or.inl ⟨rfl, ?_⟩) hHeld ?_
      rotate_left
      focus (intro wx hSw; (try dsimp only at hSw); (try go_split_ands); go_simp; (try with_reducible rfl))
      try simp only [Act.put, List.getElem_toArray, List.getElem_cons_succ, List.getElem_cons_zero, List.setIfInBounds_toArray, List.set_cons_zero, List.set_cons_succ]
      refine wpAnyH_take (i := 6) (v := ?_) rfl (by kernel_rfl) (by kernel_rfl) (by kernel_rfl) (fun _ _ _ h => h) (Or.inl ⟨rfl, ?_⟩) hHeld ?_
      rotate_left
      focus (intro wx hSw; (try dsimp only at hSw); (try go_split_ands); go_simp; (try with_reducible rfl))
      try simp only [Act.put, List.getElem_toArray, List.getElem_cons_succ, List.getElem_cons_zero, List.setIfInBounds_toArray, List.set_cons_zero, List.set_cons_succ]
      refine wpAnyH_take (i := 7) (v := ?_) rfl (by kernel_rfl) (by kernel_rfl) (by kernel_rfl) (fun _ _ _ h => h) (Or.inl ⟨rfl, ?_⟩) hHeld ?_
      rotate_left
      focus (intro wx hSw; (try dsimp only at hSw); (try go_split_ands); go_simp; (try with_reducible rfl))
      try simp only [Act.put, List.getElem_toArray, List.getElem_cons_succ, List.getElem_cons_zero, List.setIfInBounds_toArray, List.set_cons_zero, List.set_cons_succ]
      refine wpAnyH_ready (rs := [4]) (by kernel_rfl) (by simp) (AllReadyH.cons rfl (fun K hK => ?_) AllReadyH.nil)
      go_simp
      (go_at_call 45; (with_reducible refine (VC.out _).mono ?_); rintro e w' ⟨rfl, rfl⟩)
      go_wp2_with fail
      refine hK.out _ _ ?_ (fun hHeld => ?_)
      · ((try dsimp only); (try dsimp only at hHeld); (first | exact hHeld | (simp; done) | (simp; omega)))
      clear hK K
      try dsimp only at hHeld
      try simp only [Act.put, List.getElem_toArray, List.getElem_cons_succ, List.getElem_cons_zero, List.setIfInBounds_toArray, List.set_cons_zero, List.set_cons_succ]
      refine wpAnyH_take (i := 5) (v := ?_) rfl (by kernel_rfl) (by kernel_rfl) (by kernel_rfl) (fun _ _ _ h => h) (Or.inl ⟨rfl, ?_⟩) hHeld ?_
      rotate_left
      focus (intro wx hSw; (try dsimp only at hSw); (try go_split_ands); go_simp; (try with_reducible rfl))
      try simp only [Act.put, List.getElem_toArray, List.getElem_cons_succ, List.getElem_cons_zero, List.setIfInBounds_toArray, List.set_cons_zero, List.set_cons_succ]
      refine wpAnyH_ready (rs := [8]) (by kernel_rfl) (by simp) (AllReadyH.cons rfl (fun K hK => ?_) AllReadyH.nil)
      go_simp
      (go_at_call 45; (with_reducible refine (VN.out _).mono ?_); rintro e w' ⟨rfl, rfl⟩)
      go_wp2_with fail
      refine hK.out _ _ ?_ (fun hHeld => ?_)
      · ((try dsimp only); (try dsimp only at hHeld); (first | exact hHeld | (simp; done) | (simp; omega)))
      clear hK K
      try dsimp only at hHeld
      try simp only [Act.put, List.getElem_toArray, List.getElem_cons_succ, List.getElem_cons_zero, List.setIfInBounds_toArray, List.set_cons_zero, List.set_cons_succ]
      refine wpAnyH_take (i := 9) (v := ?_) rfl (by kernel_rfl) (by kernel_rfl) (by kernel_rfl) (fun _ _ _ h => h) (Or.inl ⟨rfl, ?_⟩) hHeld ?_
      rotate_left
      focus (intro wx hSw; (try dsimp only at hSw); (try go_split_ands); go_simp; (try with_reducible rfl))
      try simp only [Act.put, List.getElem_toArray, List.getElem_cons_succ, List.getElem_cons_zero, List.setIfInBounds_toArray, List.set_cons_zero, List.set_cons_succ]
      refine wpAnyH_take (i := 10) (v := ?_) rfl (by kernel_rfl) (by kernel_rfl) (by kernel_rfl) (fun _ _ _ h => h) (Or.inl ⟨rfl, ?_⟩) hHeld ?_
      rotate_left
      focus (intro wx hSw; (try dsimp only at hSw); (try go_split_ands); go_simp; (try with_reducible rfl))
      try simp only [Act.put, List.getElem_toArray, List.getElem_cons_succ, List.getElem_cons_zero, List.setIfInBounds_toArray, List.set_cons_zero, List.set_cons_succ]
      refine wpAnyH_ready (rs := [11]) (by kernel_rfl) (by simp) (AllReadyH.cons rfl (fun K hK => ?_) AllReadyH.nil)
      go_simp
      refine hK.out _ _ ?_ (fun hHeld => ?_)
      · ((try dsimp only); (try dsimp only at hHeld); (first | exact hHeld | (simp; done) | (simp; omega)))
      clear hK K
      try dsimp only at hHeld
      try simp only [Act.put, List.getElem_toArray, List.getElem_cons_succ, List.getElem_cons_zero, List.setIfInBounds_toArray, List.set_cons_zero, List.set_cons_succ]
      refine wpAnyH_take (i := 12) (v := ?_) rfl (by kernel_rfl) (by kernel_rfl) (by kernel_rfl) (fun _ _ _ h => h) (Or.inl ⟨rfl, ?_⟩) hHeld ?_
      rotate_left
      focus (intro wx hSw; (try dsimp only at hSw); (try go_split_ands); go_simp; (try with_reducible rfl))
      try simp only [Act.put, List.getElem_toArray, List.getElem_cons_succ, List.getElem_cons_zero, List.setIfInBounds_toArray, List.set_cons_zero, List.set_cons_succ]
      refine wpAnyH_done (by kernel_rfl) ?_ _
      go_wp2
      exact bodyPost_ret (v := .tuple #[.agg #[.int .u8 (x0.toNat : Int), .int .u16 (C : Int), .int .u32 (Nn : Int)], .bool true]) (by simp [results, Try.results44, go_sem]) rfl ⟨by rw [HH.out.1, HH.out.2], by with_reducible repeat (first | exact Below.refl _ _ | refine Below.drew ?_ | refine ball ?_ _)⟩
end Go.Proofs.Ytgdipljaddodhaa
