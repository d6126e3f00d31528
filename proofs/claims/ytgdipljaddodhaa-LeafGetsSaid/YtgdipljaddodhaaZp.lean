/-
  Pages of a tree: contract of the reference's one.
-/
import Derived.Test.YtgdipljaddodhaaZm
import Derived.Test.YtgdipljaddodhaaZo
import Derived.StillTailTactics
set_option linter.unusedSimpArgs false
set_option linter.unusedVariables false
namespace Go.Proofs.Ytgdipljaddodhaa
open Go.RowKit

/-- May an entry stand there? -/
def oneOk (r : List UInt8) : Bool := !rdS r && decide (keyN r ≤ 200)
def zeroEn : Value := .agg #[.string ⟨#[]⟩, .int .u32 0, .int .u16 0]
def RetOne (w : World) (at_ : Nat) (r : List UInt8) : Bool → Ending → World → Prop
  | true, e, w' => RetB w (.tuple #[(rdE r).agg, .int .i64 ((at_ + (8 + keyN r) : Nat) : Int), .bool true]) e w'
  | false, e, w' => RetB w (.tuple #[zeroEn, .int .i64 0, .bool false]) e w'
theorem dval_st (l : List UInt8) (hl : l.length ≤ 7) (w : World) : Calls Try.prog 45 #[.string (str l)] w fun e w' => e = .returned (.int .u64 (beVal l)) ∧ w' = w :=
  (dval_any l hl w).mono fun e w' ⟨h1, h2⟩ => ⟨h1, h2.symm⟩

section
variable (L : List UInt8) (at_ : Nat) (hat : at_ ≤ L.length) (hL : L.length ≤ 1000) (w : World)
set_option maxRecDepth 100000 in
set_option maxHeartbeats 4000000 in
include hat hL in
theorem one_any : Calls Try.prog 46 #[.string (str L), .int .i64 at_] w (RetOne w at_ (L.drop at_) (oneOk (L.drop at_))) := by
  have hz := str_size L
  have hrl : (L.drop at_).length = L.length - at_ := List.length_drop
  have hzI : ((str L).size : Int) = (L.length : Int) := by rw [hz]
  have b0 : (0 : Int) ≤ (at_ : Int) := by omega
  have b1 : (at_ : Int) ≤ (L.length : Int) := by omega
  have b2 : (L.length : Int) ≤ 1000 := by omega
  have X0 := (Blk.new w 27 #[.string ⟨#[]⟩, .int .u32 0, .int .u16 0]).alloc (.cells #[.string ⟨#[]⟩, .int .u32 0, .int .u16 0] 27)
  have hbw : Below w.heap.size w ((w.alloc (.cells #[.string ⟨#[]⟩, .int .u32 0, .int .u16 0] 27)).alloc (.cells #[.string ⟨#[]⟩, .int .u32 0, .int .u16 0] 27)) := ball (ball (Below.refl _ _) _) _
  have hset : ∀ (W : World) (a b c : Value), Below w.heap.size w W → Below w.heap.size w (((W.setCell ⟨w.heap.size, 0, none⟩ a).setCell ⟨w.heap.size, 1, none⟩ b).setCell ⟨w.heap.size, 2, none⟩ c) := fun W a b c h => ((h.setCell (Nat.le_refl _) _).setCell (Nat.le_refl _) _).setCell (Nat.le_refl _) _
  have Hset := Lib.hid hset
  have HX := Lib.hid (And.intro X0 hbw)
  have X5 := ((X0.set_ 0 (.string ⟨#[]⟩)).set_ 1 (.int .u32 0)).set_ 2 (.int .u16 0)
  have HX5 := Lib.hid (And.intro (X5.cell 0) (And.intro (X5.cell 1) (X5.cell 2)))
  have f0 := X0.frozen 0
  have f1 := X0.frozen 1
  have f2 := X0.frozen 2
  clear hset X0 hbw X5
  have bad : ∀ b, oneOk (L.drop at_) = b → b = false → oneOk (L.drop at_) = false := fun b h h' => h.trans h'
  by_cases h2 : at_ + 2 ≤ L.length
  rotate_left
  · have ho : oneOk (L.drop at_) = false := by
      unfold oneOk
      have : rdS (L.drop at_) = true := by
        cases h : rdS (L.drop at_) with
        | true => rfl
        | false => have := (rdS_iff _).1 h; omega
      rw [this]; rfl
    rw [ho]
    have g2 : (L.length : Int) < (at_ : Int) + 2 := by omega
    clear ho h2 bad
    go_enter Try.func46, Try.ntmps46
    go_wp2
    obtain ⟨y0, y1, y2⟩ := HX5.out
    exact bodyPost_ret (v := .tuple #[zeroEn, .int .i64 0, .bool false]) (by simp [results, Try.results46, go_sem, y0, y1, y2, zeroEn]) rfl ⟨rfl, HX.out.2⟩
  · have g2 : (at_ : Int) + 2 ≤ (L.length : Int) := by omega
    have sl1 : ∀ W, (Instr.slice 9 (.string (str L)) (some (.int .i64 (at_ : Int))) (some (.int .i64 ((at_ : Int) + 2))) none).run Try.prog W = .ok (.string (str ((L.drop at_).take 2))) W := cut_mid (P := Try.prog) Try.underlying9 L ((L.drop at_).take 2) .i64 .i64 at_ ((at_ : Int) + 2) (by omega) (by omega) (by omega) (by congr 1; omega)
    have V1 := Lib.hid fun W => dval_any ((L.drop at_).take 2) (by rw [List.length_take]; omega) W
    have hk2 : beVal ((L.drop at_).take 2) = keyN (L.drop at_) := by unfold keyN; rw [tk_ge (by omega)]
    rw [hk2] at V1
    have hklt := keyN_lt (L.drop at_)
    obtain ⟨K, hK⟩ : ∃ K, keyN (L.drop at_) = K := ⟨_, rfl⟩
    have hrs : (rdS (L.drop at_) = false) ↔ at_ + 8 + K ≤ L.length := by rw [rdS_iff, hK]; omega
    rw [hK] at V1 hklt
    have wK : IntKind.i64.wrap (K : Int) = (K : Int) := IntWalk.i64_in _ (by omega)
    have k0 : (0 : Int) ≤ (K : Int) := by omega
    have k1 : (K : Int) ≤ 65535 := by omega
    by_cases h3 : K ≤ 200 ∧ at_ + 8 + K ≤ L.length
    rotate_left
    · have ho : oneOk (L.drop at_) = false := by
        unfold oneOk
        rw [hK]
        by_cases h200 : K ≤ 200
        · have : rdS (L.drop at_) = true := by
            cases h : rdS (L.drop at_) with
            | true => rfl
            | false => exact absurd ⟨h200, hrs.1 h⟩ h3
          rw [this]; rfl
        · simp [h200]
      rw [ho]
      by_cases h200 : K ≤ 200
      · have q1 : (K : Int) ≤ 200 := by omega
        have q2 : (L.length : Int) < (at_ : Int) + 2 + (K : Int) + 6 := by omega
        clear ho h2 h3 h200 hrs hK hk2 bad hat
        go_enter Try.func46, Try.ntmps46
        go_wp2_with fail
        refine (V1.out _).mono ?_
        rintro e w1 ⟨rfl, rfl⟩
        go_wp2
        obtain ⟨y0, y1, y2⟩ := HX5.out
        exact bodyPost_ret (v := .tuple #[zeroEn, .int .i64 0, .bool false]) (by simp [results, Try.results46, go_sem, y0, y1, y2, zeroEn]) rfl ⟨rfl, HX.out.2⟩
      · have q1 : (200 : Int) < (K : Int) := by omega
        clear ho h2 h3 h200 hrs hK hk2 bad hat
        go_enter Try.func46, Try.ntmps46
        go_wp2_with fail
        refine (V1.out _).mono ?_
        rintro e w1 ⟨rfl, rfl⟩
        go_wp2
        obtain ⟨y0, y1, y2⟩ := HX5.out
        exact bodyPost_ret (v := .tuple #[zeroEn, .int .i64 0, .bool false]) (by simp [results, Try.results46, go_sem, y0, y1, y2, zeroEn]) rfl ⟨rfl, HX.out.2⟩
    · obtain ⟨h200, h8⟩ := h3
      have hs0 := hrs.2 h8
      have ho : oneOk (L.drop at_) = true := by unfold oneOk; rw [hs0, hK]; simp [h200]
      obtain ⟨hf1, hf2, _⟩ := rd_form hs0
      rw [hK, List.drop_drop, List.drop_drop, List.drop_drop] at hf1
      rw [ho]
      have q1 : (K : Int) ≤ 200 := by omega
      have q2 : (at_ : Int) + 2 + (K : Int) + 6 ≤ (L.length : Int) := by omega
      have sl2 : ∀ W, (Instr.slice 9 (.string (str L)) (some (.int .i64 ((at_ : Int) + 2))) (some (.int .i64 ((at_ : Int) + 2 + (K : Int)))) none).run Try.prog W = .ok (.string (str ((L.drop (at_ + 2)).take K))) W := cut_mid (P := Try.prog) Try.underlying9 L ((L.drop (at_ + 2)).take K) .i64 .i64 ((at_ : Int) + 2) ((at_ : Int) + 2 + (K : Int)) (by omega) (by omega) (by omega) (by congr 1; omega)
      have sl3 : ∀ W, (Instr.slice 9 (.string (str L)) (some (.int .i64 ((at_ : Int) + 2 + (K : Int)))) (some (.int .i64 ((at_ : Int) + 2 + (K : Int) + 4))) none).run Try.prog W = .ok (.string (str ((L.drop (at_ + (2 + K))).take 4))) W := cut_mid (P := Try.prog) Try.underlying9 L ((L.drop (at_ + (2 + K))).take 4) .i64 .i64 ((at_ : Int) + 2 + (K : Int)) ((at_ : Int) + 2 + (K : Int) + 4) (by omega) (by omega) (by omega) (by rw [show ((at_ : Int) + 2 + (K : Int)).toNat = at_ + (2 + K) from by omega] <;> (congr 1; omega))
      have sl4 : ∀ W, (Instr.slice 9 (.string (str L)) (some (.int .i64 ((at_ : Int) + 2 + (K : Int) + 4))) (some (.int .i64 ((at_ : Int) + 2 + (K : Int) + 6))) none).run Try.prog W = .ok (.string (str ((L.drop (at_ + (2 + K + 4))).take 2))) W := cut_mid (P := Try.prog) Try.underlying9 L ((L.drop (at_ + (2 + K + 4))).take 2) .i64 .i64 ((at_ : Int) + 2 + (K : Int) + 4) ((at_ : Int) + 2 + (K : Int) + 6) (by omega) (by omega) (by omega) (by rw [show ((at_ : Int) + 2 + (K : Int) + 4).toNat = at_ + (2 + K + 4) from by omega] <;> (congr 1; omega))
      have V3 := fun W => dval_any ((L.drop (at_ + (2 + K))).take 4) (by rw [List.length_take]; omega) W
      have V4 := fun W => dval_any ((L.drop (at_ + (2 + K + 4))).take 2) (by rw [List.length_take]; omega) W
      have hPb := beVal_lt_of (l := (L.drop (at_ + (2 + K))).take 4) (n := 4) (by rw [List.length_take]; omega)
      have hQb := beVal_lt_of (l := (L.drop (at_ + (2 + K + 4))).take 2) (n := 2) (by rw [List.length_take]; omega)
      obtain ⟨P, hP⟩ : ∃ P, beVal ((L.drop (at_ + (2 + K))).take 4) = P := ⟨_, rfl⟩
      obtain ⟨Q, hQ⟩ : ∃ Q, beVal ((L.drop (at_ + (2 + K + 4))).take 2) = Q := ⟨_, rfl⟩
      rw [hP] at V3 hPb hf1
      rw [hQ] at V4 hQb hf1
      have wP : IntKind.u32.wrap (P : Int) = (P : Int) := by rw [IntKind.wrap_u32]; omega
      have wQ : IntKind.u16.wrap (Q : Int) = (Q : Int) := by rw [IntKind.wrap_u16]; omega
      have hfin : (rdE (L.drop at_)).agg = .agg #[.string (str ((L.drop (at_ + 2)).take K)), .int .u32 (P : Int), .int .u16 (Q : Int)] := by rw [hf1]
      have a1 : IntKind.i64.wrap ((at_ : Int) + 2) = (at_ : Int) + 2 := IntWalk.i64_in _ (by omega)
      have a2 : IntKind.i64.wrap ((at_ : Int) + 2 + (K : Int) + 4) = (at_ : Int) + 2 + (K : Int) + 4 := IntWalk.i64_in _ (by omega)
      have a3 : IntKind.i64.wrap ((at_ : Int) + 2 + (K : Int) + 6) = (at_ : Int) + 2 + (K : Int) + 6 := IntWalk.i64_in _ (by omega)
      have a4 : (at_ : Int) + 2 + (K : Int) + 6 = ((at_ + (8 + K) : Nat) : Int) := by omega
      have HF := Lib.hid (And.intro hfin a4)
      obtain ⟨S2, hS2⟩ : ∃ S2, str ((L.drop (at_ + 2)).take K) = S2 := ⟨_, rfl⟩
      rw [hS2] at sl2 HF
      have X6 := ((HX.out.1.drew.set_ 0 (.string S2)).set_ 1 (.int .u32 (P : Int))).set_ 2 (.int .u16 (Q : Int))
      have HX6 := Lib.hid (And.intro (X6.cell 0) (And.intro (X6.cell 1) (X6.cell 2)))
      have hK' := Lib.hid hK
      clear ho h2 h200 h8 hrs hK hk2 bad hf1 hf2 hfin hS2 hP hQ hPb hQb hs0 X6 hat hrl a4
      go_enter Try.func46, Try.ntmps46
      go_wp2_with fail
      refine (V1.out _).mono ?_
      rintro e w1 ⟨rfl, rfl⟩
      have HV3 := Lib.hid V3
      have HV4 := Lib.hid V4
      clear V3 V4
      go_wp2_with fail
      refine wp_region_held_drew (S := (fun w' => w.heap.size ≤ w'.heap.size)) (by kernel_rfl) (by simp; omega) (fun hHeld => ?_)
      try dsimp only at hHeld
      refine wpAnyH_take (i := 0) (v := ?_) rfl (by kernel_rfl) (by kernel_rfl) (by kernel_rfl) (fun _ _ _ h => h) (Or.inl ⟨rfl, ?_⟩) hHeld ?_
      rotate_left
      focus (intro wx hSw; (try dsimp only at hSw); (try go_split_ands); go_simp; (try with_reducible rfl))
      try simp only [Act.put, List.getElem_toArray, List.getElem_cons_succ, List.getElem_cons_zero, List.setIfInBounds_toArray, List.set_cons_zero, List.set_cons_succ]
      refine wpAnyH_take (i := 1) (v := ?_) rfl (by kernel_rfl) (by kernel_rfl) (by kernel_rfl) (fun _ _ _ h => h) (Or.inl ⟨rfl, ?_⟩) hHeld ?_
      rotate_left
      focus (intro wx hSw; (try dsimp only at hSw); (try go_split_ands); go_simp; (try with_reducible rfl))
      try simp only [Act.put, List.getElem_toArray, List.getElem_cons_succ, List.getElem_cons_zero, List.setIfInBounds_toArray, List.set_cons_zero, List.set_cons_succ]
      refine wpAnyH_take (i := 2) (v := ?_) rfl (by kernel_rfl) (by kernel_rfl) (by kernel_rfl) (fun _ _ _ h => h) (Or.inl ⟨rfl, ?_⟩) hHeld ?_
      rotate_left
      focus (intro wx hSw; (try dsimp only at hSw); (try go_split_ands); go_simp; (try with_reducible rfl))
      try simp only [Act.put, List.getElem_toArray, List.getElem_cons_succ, List.getElem_cons_zero, List.setIfInBounds_toArray, List.set_cons_zero, List.set_cons_succ]
      refine wpAnyH_take (i := 3) (v := ?_) rfl (by kernel_rfl) (by kernel_rfl) (by kernel_rfl) (fun _ _ _ h => h) (Or.inl ⟨rfl, ?_⟩) hHeld ?_
      rotate_left
      focus (intro wx hSw; (try dsimp only at hSw); (try go_split_ands); go_simp; (try with_reducible rfl))
      try simp only [Act.put, List.getElem_toArray, List.getElem_cons_succ, List.getElem_cons_zero, List.setIfInBounds_toArray, List.set_cons_zero, List.set_cons_succ]
      refine wpAnyH_take (i := 4) (v := ?_) rfl (by kernel_rfl) (by kernel_rfl) (by kernel_rfl) (fun _ _ _ h => h) (Or.inl ⟨rfl, ?_⟩) hHeld ?_
      rotate_left
      focus (intro wx hSw; (try dsimp only at hSw); (try go_split_ands); go_simp; (try with_reducible rfl))
      try simp only [Act.put, List.getElem_toArray, List.getElem_cons_succ, List.getElem_cons_zero, List.setIfInBounds_toArray, List.set_cons_zero, List.set_cons_succ]
      refine wpAnyH_take (i := 5) (v := ?_) rfl (by kernel_rfl) (by kernel_rfl) (by kernel_rfl) (fun _ _ _ h => h) (Or.inl ⟨rfl, ?_⟩) hHeld ?_
      rotate_left
      focus (intro wx hSw; (try dsimp only at hSw); (try go_split_ands); go_simp; (try with_reducible rfl))
      try simp only [Act.put, List.getElem_toArray, List.getElem_cons_succ, List.getElem_cons_zero, List.setIfInBounds_toArray, List.set_cons_zero, List.set_cons_succ]
      refine wpAnyH_take (i := 6) (v := ?_) rfl (by kernel_rfl) (by kernel_rfl) (by kernel_rfl) (fun _ _ _ h => h) (Or.inl ⟨rfl, ?_⟩) hHeld ?_
      rotate_left
      focus (intro wx hSw; (try dsimp only at hSw); (try go_split_ands); go_simp; (try with_reducible rfl))
      try simp only [Act.put, List.getElem_toArray, List.getElem_cons_succ, List.getElem_cons_zero, List.setIfInBounds_toArray, List.set_cons_zero, List.set_cons_succ]
      refine wpAnyH_take (i := 7) (v := ?_) rfl (by kernel_rfl) (by kernel_rfl) (by kernel_rfl) (fun _ _ _ h => h) (Or.inl ⟨rfl, ?_⟩) hHeld ?_
      rotate_left
      focus (intro wx hSw; (try dsimp only at hSw); (try go_split_ands); go_simp; (try with_reducible rfl))
      try simp only [Act.put, List.getElem_toArray, List.getElem_cons_succ, List.getElem_cons_zero, List.setIfInBounds_toArray, List.set_cons_zero, List.set_cons_succ]
      refine wpAnyH_take (i := 8) (v := ?_) rfl (by kernel_rfl) (by kernel_rfl) (by kernel_rfl) (fun _ _ _ h => h) (Or.inl ⟨rfl, ?_⟩) hHeld ?_
      rotate_left
      focus (intro wx hSw; (try dsimp only at hSw); (try go_split_ands); go_simp; (try with_reducible rfl))
      try simp only [Act.put, List.getElem_toArray, List.getElem_cons_succ, List.getElem_cons_zero, List.setIfInBounds_toArray, List.set_cons_zero, List.set_cons_succ]
      refine wpAnyH_take (i := 9) (v := ?_) rfl (by kernel_rfl) (by kernel_rfl) (by kernel_rfl) (fun _ _ _ h => h) (Or.inl ⟨rfl, ?_⟩) hHeld ?_
      rotate_left
      focus (intro wx hSw; (try dsimp only at hSw); (try go_split_ands); go_simp; (try with_reducible rfl))
      try simp only [Act.put, List.getElem_toArray, List.getElem_cons_succ, List.getElem_cons_zero, List.setIfInBounds_toArray, List.set_cons_zero, List.set_cons_succ]
      refine wpAnyH_take (i := 12) (v := ?_) rfl (by kernel_rfl) (by kernel_rfl) (by kernel_rfl) (fun _ _ _ h => h) (Or.inl ⟨rfl, ?_⟩) hHeld ?_
      rotate_left
      focus (intro wx hSw; (try dsimp only at hSw); (try go_split_ands); go_simp; (try with_reducible rfl))
      try simp only [Act.put, List.getElem_toArray, List.getElem_cons_succ, List.getElem_cons_zero, List.setIfInBounds_toArray, List.set_cons_zero, List.set_cons_succ]
      refine wpAnyH_take (i := 13) (v := ?_) rfl (by kernel_rfl) (by kernel_rfl) (by kernel_rfl) (fun _ _ _ h => h) (Or.inl ⟨rfl, ?_⟩) hHeld ?_
      rotate_left
      focus (intro wx hSw; (try dsimp only at hSw); (try go_split_ands); go_simp; (try with_reducible rfl))
      try simp only [Act.put, List.getElem_toArray, List.getElem_cons_succ, List.getElem_cons_zero, List.setIfInBounds_toArray, List.set_cons_zero, List.set_cons_succ]
      refine wpAnyH_take (i := 14) (v := ?_) rfl (by kernel_rfl) (by kernel_rfl) (by kernel_rfl) (fun _ _ _ h => h) (Or.inl ⟨rfl, ?_⟩) hHeld ?_
      rotate_left
      focus (intro wx hSw; (try dsimp only at hSw); (try go_split_ands); go_simp; (try with_reducible rfl))
      try simp only [Act.put, List.getElem_toArray, List.getElem_cons_succ, List.getElem_cons_zero, List.setIfInBounds_toArray, List.set_cons_zero, List.set_cons_succ]
      refine wpAnyH_take (i := 15) (v := ?_) rfl (by kernel_rfl) (by kernel_rfl) (by kernel_rfl) (fun _ _ _ h => h) (Or.inl ⟨rfl, ?_⟩) hHeld ?_
      rotate_left
      focus (intro wx hSw; (try dsimp only at hSw); (try go_split_ands); go_simp; (try with_reducible rfl))
      try simp only [Act.put, List.getElem_toArray, List.getElem_cons_succ, List.getElem_cons_zero, List.setIfInBounds_toArray, List.set_cons_zero, List.set_cons_succ]
      refine wpAnyH_take (i := 16) (v := ?_) rfl (by kernel_rfl) (by kernel_rfl) (by kernel_rfl) (fun _ _ _ h => h) (Or.inl ⟨rfl, ?_⟩) hHeld ?_
      rotate_left
      focus (intro wx hSw; (try dsimp only at hSw); (try go_split_ands); go_simp; (try with_reducible rfl))
      try simp only [Act.put, List.getElem_toArray, List.getElem_cons_succ, List.getElem_cons_zero, List.setIfInBounds_toArray, List.set_cons_zero, List.set_cons_succ]
      refine wpAnyH_take (i := 17) (v := ?_) rfl (by kernel_rfl) (by kernel_rfl) (by kernel_rfl) (fun _ _ _ h => h) (Or.inl ⟨rfl, ?_⟩) hHeld ?_
      rotate_left
      focus (intro wx hSw; (try dsimp only at hSw); (try go_split_ands); go_simp; (try with_reducible rfl))
      try simp only [Act.put, List.getElem_toArray, List.getElem_cons_succ, List.getElem_cons_zero, List.setIfInBounds_toArray, List.set_cons_zero, List.set_cons_succ]
      refine wpAnyH_take (i := 22) (v := ?_) rfl (by kernel_rfl) (by kernel_rfl) (by kernel_rfl) (fun _ _ _ h => h) (Or.inl ⟨rfl, ?_⟩) hHeld ?_
      rotate_left
      focus (intro wx hSw; (try dsimp only at hSw); (try go_split_ands); go_simp; (try with_reducible rfl))
      try simp only [Act.put, List.getElem_toArray, List.getElem_cons_succ, List.getElem_cons_zero, List.setIfInBounds_toArray, List.set_cons_zero, List.set_cons_succ]
      refine wpAnyH_take (i := 23) (v := ?_) rfl (by kernel_rfl) (by kernel_rfl) (by kernel_rfl) (fun _ _ _ h => h) (Or.inl ⟨rfl, ?_⟩) hHeld ?_
      rotate_left
      focus (intro wx hSw; (try dsimp only at hSw); (try go_split_ands); go_simp; (try with_reducible rfl))
      try simp only [Act.put, List.getElem_toArray, List.getElem_cons_succ, List.getElem_cons_zero, List.setIfInBounds_toArray, List.set_cons_zero, List.set_cons_succ]
      refine wpAnyH_ready (rs := [10]) (by kernel_rfl) (by simp) (AllReadyH.cons rfl (fun K hK => ?_) AllReadyH.nil)
      go_simp
      (go_at_call 45; (with_reducible refine (HV3.out _).mono ?_); rintro e w' ⟨rfl, rfl⟩)
      go_wp2_with fail
      refine hK.out _ _ ?_ (fun hHeld => ?_)
      · ((try dsimp only); (try dsimp only at hHeld); (first | exact hHeld | (simp; done) | (simp; omega)))
      clear hK K
      try dsimp only at hHeld
      try simp only [Act.put, List.getElem_toArray, List.getElem_cons_succ, List.getElem_cons_zero, List.setIfInBounds_toArray, List.set_cons_zero, List.set_cons_succ]
      refine wpAnyH_take (i := 11) (v := ?_) rfl (by kernel_rfl) (by kernel_rfl) (by kernel_rfl) (fun _ _ _ h => h) (Or.inl ⟨rfl, ?_⟩) hHeld ?_
      rotate_left
      focus (intro wx hSw; (try dsimp only at hSw); (try go_split_ands); go_simp; (try with_reducible rfl))
      try simp only [Act.put, List.getElem_toArray, List.getElem_cons_succ, List.getElem_cons_zero, List.setIfInBounds_toArray, List.set_cons_zero, List.set_cons_succ]
      refine wpAnyH_ready (rs := [18]) (by kernel_rfl) (by simp) (AllReadyH.cons rfl (fun K hK => ?_) AllReadyH.nil)
      go_simp
      (go_at_call 45; (with_reducible refine (HV4.out _).mono ?_); rintro e w' ⟨rfl, rfl⟩)
      go_wp2_with fail
      refine hK.out _ _ ?_ (fun hHeld => ?_)
      · ((try dsimp only); (try dsimp only at hHeld); (first | exact hHeld | (simp; done) | (simp; omega)))
      clear hK K
      try dsimp only at hHeld
      try simp only [Act.put, List.getElem_toArray, List.getElem_cons_succ, List.getElem_cons_zero, List.setIfInBounds_toArray, List.set_cons_zero, List.set_cons_succ]
      refine wpAnyH_take (i := 19) (v := ?_) rfl (by kernel_rfl) (by kernel_rfl) (by kernel_rfl) (fun _ _ _ h => h) (Or.inl ⟨rfl, ?_⟩) hHeld ?_
      rotate_left
      focus (intro wx hSw; (try dsimp only at hSw); (try go_split_ands); go_simp; (try with_reducible rfl))
      try simp only [Act.put, List.getElem_toArray, List.getElem_cons_succ, List.getElem_cons_zero, List.setIfInBounds_toArray, List.set_cons_zero, List.set_cons_succ]
      refine wpAnyH_take (i := 20) (v := ?_) rfl (by kernel_rfl) (by kernel_rfl) (by kernel_rfl) (fun _ _ _ h => h) (Or.inl ⟨rfl, ?_⟩) hHeld ?_
      rotate_left
      focus (intro wx hSw; (try dsimp only at hSw); (try go_split_ands); go_simp; (try with_reducible rfl))
      try simp only [Act.put, List.getElem_toArray, List.getElem_cons_succ, List.getElem_cons_zero, List.setIfInBounds_toArray, List.set_cons_zero, List.set_cons_succ]
      refine wpAnyH_take (i := 21) (v := ?_) rfl (by kernel_rfl) (by kernel_rfl) (by kernel_rfl) (fun _ _ _ h => h) (Or.inl ⟨rfl, ?_⟩) hHeld ?_
      rotate_left
      focus (intro wx hSw; (try dsimp only at hSw); (try go_split_ands); go_simp; (try with_reducible rfl))
      try simp only [Act.put, List.getElem_toArray, List.getElem_cons_succ, List.getElem_cons_zero, List.setIfInBounds_toArray, List.set_cons_zero, List.set_cons_succ]
      refine wpAnyH_ready (rs := [24]) (by kernel_rfl) (by simp) (AllReadyH.cons rfl (fun K hK => ?_) AllReadyH.nil)
      go_simp
      refine hK.out _ _ ?_ (fun hHeld => ?_)
      · ((try dsimp only); (try dsimp only at hHeld); (first | exact hHeld | (simp; done) | (simp; omega)))
      clear hK K
      try dsimp only at hHeld
      try simp only [Act.put, List.getElem_toArray, List.getElem_cons_succ, List.getElem_cons_zero, List.setIfInBounds_toArray, List.set_cons_zero, List.set_cons_succ]
      refine wpAnyH_take (i := 25) (v := ?_) rfl (by kernel_rfl) (by kernel_rfl) (by kernel_rfl) (fun _ _ _ h => h) (Or.inl ⟨rfl, ?_⟩) hHeld ?_
      rotate_left
      focus (intro wx hSw; (try dsimp only at hSw); (try go_split_ands); go_simp; (try with_reducible rfl))
      try simp only [Act.put, List.getElem_toArray, List.getElem_cons_succ, List.getElem_cons_zero, List.setIfInBounds_toArray, List.set_cons_zero, List.set_cons_succ]
      refine wpAnyH_take (i := 26) (v := ?_) rfl (by kernel_rfl) (by kernel_rfl) (by kernel_rfl) (fun _ _ _ h => h) (Or.inl ⟨rfl, ?_⟩) hHeld ?_
      rotate_left
      focus (intro wx hSw; (try dsimp only at hSw); (try go_split_ands); go_simp; (try with_reducible rfl))
      try simp only [Act.put, List.getElem_toArray, List.getElem_cons_succ, List.getElem_cons_zero, List.setIfInBounds_toArray, List.set_cons_zero, List.set_cons_succ]
      refine wpAnyH_done (by kernel_rfl) ?_ _
      go_wp2
      obtain ⟨y0, y1, y2⟩ := HX6.out
      exact bodyPost_ret (v := .tuple #[.agg #[.string S2, .int .u32 (P : Int), .int .u16 (Q : Int)], .int .i64 ((at_ : Int) + 2 + (K : Int) + 6), .bool true]) (by simp [results, Try.results46, go_sem, y0, y1, y2]) rfl ⟨by rw [HF.out.1, hK'.out, ← HF.out.2], (ball (ball (Below.refl _ _) _) _).drew⟩
end
end Go.Proofs.Ytgdipljaddodhaa
