/-
  Zp Zq Zr Zs.
-/
import Derived.Test.YtebobcbaloddaaaGreatMobg
import Derived.Test.YtebobcbaloddaaaGreatMobb
import Derived.Test.YtebobcbaloddaaaGreatMobe
import Derived.StillTailTactics
import Derived.Test.YtebobcbaloddaaaGreatMozz
namespace Go.Proofs.YtebobcbaloddaaaGreat
section
set_option linter.unusedSimpArgs false
set_option linter.unusedVariables false
open Go.RowKit
def oneOk (r : List UInt8) : Bool := !rdS r && decide (keyN r ≤ 200)
def zeroEn : Value := .agg #[.string ⟨#[]⟩, .int .u32 0, .int .u16 0]
def RetOne (w : World) (at_ : Nat) (r : List UInt8) : Bool → Ending → World → Prop
 | true, e, w' => RetB w (.tuple #[(rdE r).agg, .int .i64 ((at_ + (8 + keyN r) : Nat) : Int), .bool true]) e w'
 | false, e, w' => RetB w (.tuple #[zeroEn, .int .i64 0, .bool false]) e w'
section
variable (L : List UInt8) (at_ : Nat) (hat : at_ ≤ L.length) (hL : L.length ≤ 1000) (w : World)
set_option maxRecDepth 100000 in
set_option maxHeartbeats 4000000 in
include hat hL in
theorem one_any : Calls Tryz.prog 118 #[.string (str L), .int .i64 at_] w (RetOne w at_ (L.drop at_) (oneOk (L.drop at_))) := by
 have hz := str_size L
 have hrl : (L.drop at_).length = L.length - at_ := List.length_drop
 have hzI : ((str L).size : Int) = (L.length : Int) := by rw [hz]
 have b0 : (0 : Int) ≤ (at_ : Int) := by omega
 have b1 : (at_ : Int) ≤ (L.length : Int) := by omega
 have b2 : (L.length : Int) ≤ 1000 := by omega
 have X0 := (Blk.new w 37 #[.string ⟨#[]⟩, .int .u32 0, .int .u16 0]).alloc (.cells #[.string ⟨#[]⟩, .int .u32 0, .int .u16 0] 37)
 have hbw : Below w.heap.size w ((w.alloc (.cells #[.string ⟨#[]⟩, .int .u32 0, .int .u16 0] 37)).alloc (.cells #[.string ⟨#[]⟩, .int .u32 0, .int .u16 0] 37)) := ball (ball (Below.refl _ _) _) _
 have hset : ∀ (W : World) (a b c : Value), Below w.heap.size w W → Below w.heap.size w (((W.setCell ⟨w.heap.size, 0, none⟩ a).setCell ⟨w.heap.size, 1, none⟩ b).setCell ⟨w.heap.size, 2, none⟩ c) := fun W a b c h => ((h.setCell (Nat.le_refl _) _).setCell (Nat.le_refl _) _).setCell (Nat.le_refl _) _
 have Hset := Lib.hid hset
 have HX := Lib.hid (And.intro X0 hbw)
 have X5 := ((X0.set_ 0 (.string ⟨#[]⟩)).set_ 1 (.int .u32 0)).set_ 2 (.int .u16 0)
 have HX5 := Lib.hid (And.intro (X5.cell 0) (And.intro (X5.cell 1) (X5.cell 2)))
 have f0 := X0.frozen 0
 have f1 := X0.frozen 1
 have f2 := X0.frozen 2
 clear hset X0 hbw X5
 have bad : ∀ b, oneOk (L.drop at_) = b → b = false → oneOk (L.drop at_) = false := fun b h h' => h.trans h'
 by_cases h2 : at_ + 2 ≤ L.length
 rotate_left
 · have ho : oneOk (L.drop at_) = false := by
    unfold oneOk
    have : rdS (L.drop at_) = true := by
     cases h : rdS (L.drop at_) with
     | true => rfl
     | false => have := (rdS_iff _).1 h; omega
    rw [this]; rfl
   rw [ho]
   have g2 : (L.length : Int) < (at_ : Int) + 2 := by omega
   clear ho h2 bad
   go_enter Tryz.func118, Tryz.ntmps118
   go_wp2
   obtain ⟨y0, y1, y2⟩ := HX5.out
   exact bodyPost_ret (v := .tuple #[zeroEn, .int .i64 0, .bool false]) (by simp [results, Tryz.results118, go_sem, y0, y1, y2, zeroEn]) rfl ⟨rfl, HX.out.2⟩
 · have g2 : (at_ : Int) + 2 ≤ (L.length : Int) := by omega
   have sl1 : ∀ W, (Instr.slice 9 (.string (str L)) (some (.int .i64 (at_ : Int))) (some (.int .i64 ((at_ : Int) + 2))) none).run Tryz.prog W = .ok (.string (str ((L.drop at_).take 2))) W := cut_mid (P := Tryz.prog) Tryz.underlying9 L ((L.drop at_).take 2) .i64 .i64 at_ ((at_ : Int) + 2) (by omega) (by omega) (by omega) (by congr 1; omega)
   have V1 := Lib.hid fun W => dval_any ((L.drop at_).take 2) (by rw [List.length_take]; omega) W
   have hk2 : beVal ((L.drop at_).take 2) = keyN (L.drop at_) := by unfold keyN; rw [tk_ge (by omega)]
   rw [hk2] at V1
   have hklt := keyN_lt (L.drop at_)
   obtain ⟨K, hK⟩ : ∃ K, keyN (L.drop at_) = K := ⟨_, rfl⟩
   have hrs : (rdS (L.drop at_) = false) ↔ at_ + 8 + K ≤ L.length := by rw [rdS_iff, hK]; omega
   rw [hK] at V1 hklt
   have wK : IntKind.i64.wrap (K : Int) = (K : Int) := IntWalk.i64_in _ (by omega)
   have k0 : (0 : Int) ≤ (K : Int) := by omega
   have k1 : (K : Int) ≤ 65535 := by omega
   by_cases h3 : K ≤ 200 ∧ at_ + 8 + K ≤ L.length
   rotate_left
   · have ho : oneOk (L.drop at_) = false := by
      unfold oneOk
      rw [hK]
      by_cases h200 : K ≤ 200
      · have : rdS (L.drop at_) = true := by
         cases h : rdS (L.drop at_) with
         | true => rfl
         | false => exact absurd ⟨h200, hrs.1 h⟩ h3
        rw [this]; rfl
      · simp [h200]
     rw [ho]
     by_cases h200 : K ≤ 200
     · have q1 : (K : Int) ≤ 200 := by omega
       have q2 : (L.length : Int) < (at_ : Int) + 2 + (K : Int) + 6 := by omega
       clear ho h2 h3 h200 hrs hK hk2 bad hat
       go_enter Tryz.func118, Tryz.ntmps118
       go_wp2_with fail
       refine (V1.out _).mono ?_
       rintro e w1 ⟨rfl, rfl⟩
       go_wp2
       obtain ⟨y0, y1, y2⟩ := HX5.out
       exact bodyPost_ret (v := .tuple #[zeroEn, .int .i64 0, .bool false]) (by simp [results, Tryz.results118, go_sem, y0, y1, y2, zeroEn]) rfl ⟨rfl, HX.out.2⟩
     · have q1 : (200 : Int) < (K : Int) := by omega
       clear ho h2 h3 h200 hrs hK hk2 bad hat
       go_enter Tryz.func118, Tryz.ntmps118
       go_wp2_with fail
       refine (V1.out _).mono ?_
       rintro e w1 ⟨rfl, rfl⟩
       go_wp2
       obtain ⟨y0, y1, y2⟩ := HX5.out
       exact bodyPost_ret (v := .tuple #[zeroEn, .int .i64 0, .bool false]) (by simp [results, Tryz.results118, go_sem, y0, y1, y2, zeroEn]) rfl ⟨rfl, HX.out.2⟩
   · obtain ⟨h200, h8⟩ := h3
     have hs0 := hrs.2 h8
     have ho : oneOk (L.drop at_) = true := by unfold oneOk; rw [hs0, hK]; simp [h200]
     obtain ⟨hf1, hf2, _⟩ := rd_form hs0
     rw [hK, List.drop_drop, List.drop_drop, List.drop_drop] at hf1
     rw [ho]
     have q1 : (K : Int) ≤ 200 := by omega
     have q2 : (at_ : Int) + 2 + (K : Int) + 6 ≤ (L.length : Int) := by omega
     have sl2 : ∀ W, (Instr.slice 9 (.string (str L)) (some (.int .i64 ((at_ : Int) + 2))) (some (.int .i64 ((at_ : Int) + 2 + (K : Int)))) none).run Tryz.prog W = .ok (.string (str ((L.drop (at_ + 2)).take K))) W := cut_mid (P := Tryz.prog) Tryz.underlying9 L ((L.drop (at_ + 2)).take K) .i64 .i64 ((at_ : Int) + 2) ((at_ : Int) + 2 + (K : Int)) (by omega) (by omega) (by omega) (by congr 1; omega)
     have sl3 : ∀ W, (Instr.slice 9 (.string (str L)) (some (.int .i64 ((at_ : Int) + 2 + (K : Int)))) (some (.int .i64 ((at_ : Int) + 2 + (K : Int) + 4))) none).run Tryz.prog W = .ok (.string (str ((L.drop (at_ + (2 + K))).take 4))) W := cut_mid (P := Tryz.prog) Tryz.underlying9 L ((L.drop (at_ + (2 + K))).take 4) .i64 .i64 ((at_ : Int) + 2 + (K : Int)) ((at_ : Int) + 2 + (K : Int) + 4) (by omega) (by omega) (by omega) (by rw [show ((at_ : Int) + 2 + (K : Int)).toNat = at_ + (2 + K) from by omega] <;> (congr 1; omega))
     have sl4 : ∀ W, (Instr.slice 9 (.string (str L)) (some (.int .i64 ((at_ : Int) + 2 + (K : Int) + 4))) (some (.int .i64 ((at_ : Int) + 2 + (K : Int) + 6))) none).run Tryz.prog W = .ok (.string (str ((L.drop (at_ + (2 + K + 4))).take 2))) W := cut_mid (P := Tryz.prog) Tryz.underlying9 L ((L.drop (at_ + (2 + K + 4))).take 2) .i64 .i64 ((at_ : Int) + 2 + (K : Int) + 4) ((at_ : Int) + 2 + (K : Int) + 6) (by omega) (by omega) (by omega) (by rw [show ((at_ : Int) + 2 + (K : Int) + 4).toNat = at_ + (2 + K + 4) from by omega] <;> (congr 1; omega))
     have V3 := fun W => dval_any ((L.drop (at_ + (2 + K))).take 4) (by rw [List.length_take]; omega) W
     have V4 := fun W => dval_any ((L.drop (at_ + (2 + K + 4))).take 2) (by rw [List.length_take]; omega) W
     have hPb := beVal_lt_of (l := (L.drop (at_ + (2 + K))).take 4) (n := 4) (by rw [List.length_take]; omega)
     have hQb := beVal_lt_of (l := (L.drop (at_ + (2 + K + 4))).take 2) (n := 2) (by rw [List.length_take]; omega)
     obtain ⟨P, hP⟩ : ∃ P, beVal ((L.drop (at_ + (2 + K))).take 4) = P := ⟨_, rfl⟩
     obtain ⟨Q, hQ⟩ : ∃ Q, beVal ((L.drop (at_ + (2 + K + 4))).take 2) = Q := ⟨_, rfl⟩
     rw [hP] at V3 hPb hf1
     rw [hQ] at V4 hQb hf1
     have wP : IntKind.u32.wrap (P : Int) = (P : Int) := by rw [IntKind.wrap_u32]; omega
     have wQ : IntKind.u16.wrap (Q : Int) = (Q : Int) := by rw [IntKind.wrap_u16]; omega
     have hfin : (rdE (L.drop at_)).agg = .agg #[.string (str ((L.drop (at_ + 2)).take K)), .int .u32 (P : Int), .int .u16 (Q : Int)] := by rw [hf1]
     have a1 : IntKind.i64.wrap ((at_ : Int) + 2) = (at_ : Int) + 2 := IntWalk.i64_in _ (by omega)
     have a2 : IntKind.i64.wrap ((at_ : Int) + 2 + (K : Int) + 4) = (at_ : Int) + 2 + (K : Int) + 4 := IntWalk.i64_in _ (by omega)
     have a3 : IntKind.i64.wrap ((at_ : Int) + 2 + (K : Int) + 6) = (at_ : Int) + 2 + (K : Int) + 6 := IntWalk.i64_in _ (by omega)
     have a4 : (at_ : Int) + 2 + (K : Int) + 6 = ((at_ + (8 + K) : Nat) : Int) := by omega
     have HF := Lib.hid (And.intro hfin a4)
     obtain ⟨S2, hS2⟩ : ∃ S2, str ((L.drop (at_ + 2)).take K) = S2 := ⟨_, rfl⟩
     rw [hS2] at sl2 HF
     have X6 := ((HX.out.1.drew.set_ 0 (.string S2)).set_ 1 (.int .u32 (P : Int))).set_ 2 (.int .u16 (Q : Int))
     have HX6 := Lib.hid (And.intro (X6.cell 0) (And.intro (X6.cell 1) (X6.cell 2)))
     have hK' := Lib.hid hK
     clear ho h2 h200 h8 hrs hK hk2 bad hf1 hf2 hfin hS2 hP hQ hPb hQb hs0 X6 hat hrl a4
     go_enter Tryz.func118, Tryz.ntmps118
     go_wp2_with fail
     refine (V1.out _).mono ?_
     rintro e w1 ⟨rfl, rfl⟩
     have HV3 := Lib.hid V3
     have HV4 := Lib.hid V4
     clear V3 V4
     go_wp2_with fail
     refine wp_region_held_drew (S := (fun w' => w.heap.size ≤ w'.heap.size)) (by kernel_rfl) (by simp; omega) (fun hHeld => ?_)
     try dsimp only at hHeld
     refine zt 0 ?_ rfl (by kernel_rfl) (fun _ _ _ h => h) ⟨rfl, ?_⟩ hHeld ?_
     rotate_left
     focus (intro wx hSw; (try dsimp only at hSw); (try go_split_ands); go_simp; (try with_reducible rfl))
     try simp only [Act.put, za1, za2, za3, za4, za5, za6]
     refine zt 1 ?_ rfl (by kernel_rfl) (fun _ _ _ h => h) ⟨rfl, ?_⟩ hHeld ?_
     rotate_left
     focus (intro wx hSw; (try dsimp only at hSw); (try go_split_ands); go_simp; (try with_reducible rfl))
     try simp only [Act.put, za1, za2, za3, za4, za5, za6]
     refine zt 2 ?_ rfl (by kernel_rfl) (fun _ _ _ h => h) ⟨rfl, ?_⟩ hHeld ?_
     rotate_left
     focus (intro wx hSw; (try dsimp only at hSw); (try go_split_ands); go_simp; (try with_reducible rfl))
     try simp only [Act.put, za1, za2, za3, za4, za5, za6]
     refine zt 3 ?_ rfl (by kernel_rfl) (fun _ _ _ h => h) ⟨rfl, ?_⟩ hHeld ?_
     rotate_left
     focus (intro wx hSw; (try dsimp only at hSw); (try go_split_ands); go_simp; (try with_reducible rfl))
     try simp only [Act.put, za1, za2, za3, za4, za5, za6]
     refine zt 4 ?_ rfl (by kernel_rfl) (fun _ _ _ h => h) ⟨rfl, ?_⟩ hHeld ?_
     rotate_left
     focus (intro wx hSw; (try dsimp only at hSw); (try go_split_ands); go_simp; (try with_reducible rfl))
     try simp only [Act.put, za1, za2, za3, za4, za5, za6]
     refine zt 5 ?_ rfl (by kernel_rfl) (fun _ _ _ h => h) ⟨rfl, ?_⟩ hHeld ?_
     rotate_left
     focus (intro wx hSw; (try dsimp only at hSw); (try go_split_ands); go_simp; (try with_reducible rfl))
     try simp only [Act.put, za1, za2, za3, za4, za5, za6]
     refine zt 6 ?_ rfl (by kernel_rfl) (fun _ _ _ h => h) ⟨rfl, ?_⟩ hHeld ?_
     rotate_left
     focus (intro wx hSw; (try dsimp only at hSw); (try go_split_ands); go_simp; (try with_reducible rfl))
     try simp only [Act.put, za1, za2, za3, za4, za5, za6]
     refine zt 7 ?_ rfl (by kernel_rfl) (fun _ _ _ h => h) ⟨rfl, ?_⟩ hHeld ?_
     rotate_left
     focus (intro wx hSw; (try dsimp only at hSw); (try go_split_ands); go_simp; (try with_reducible rfl))
     try simp only [Act.put, za1, za2, za3, za4, za5, za6]
     refine zt 8 ?_ rfl (by kernel_rfl) (fun _ _ _ h => h) ⟨rfl, ?_⟩ hHeld ?_
     rotate_left
     focus (intro wx hSw; (try dsimp only at hSw); (try go_split_ands); go_simp; (try with_reducible rfl))
     try simp only [Act.put, za1, za2, za3, za4, za5, za6]
     refine zt 9 ?_ rfl (by kernel_rfl) (fun _ _ _ h => h) ⟨rfl, ?_⟩ hHeld ?_
     rotate_left
     focus (intro wx hSw; (try dsimp only at hSw); (try go_split_ands); go_simp; (try with_reducible rfl))
     try simp only [Act.put, za1, za2, za3, za4, za5, za6]
     refine zt 12 ?_ rfl (by kernel_rfl) (fun _ _ _ h => h) ⟨rfl, ?_⟩ hHeld ?_
     rotate_left
     focus (intro wx hSw; (try dsimp only at hSw); (try go_split_ands); go_simp; (try with_reducible rfl))
     try simp only [Act.put, za1, za2, za3, za4, za5, za6]
     refine zt 13 ?_ rfl (by kernel_rfl) (fun _ _ _ h => h) ⟨rfl, ?_⟩ hHeld ?_
     rotate_left
     focus (intro wx hSw; (try dsimp only at hSw); (try go_split_ands); go_simp; (try with_reducible rfl))
     try simp only [Act.put, za1, za2, za3, za4, za5, za6]
     refine zt 14 ?_ rfl (by kernel_rfl) (fun _ _ _ h => h) ⟨rfl, ?_⟩ hHeld ?_
     rotate_left
     focus (intro wx hSw; (try dsimp only at hSw); (try go_split_ands); go_simp; (try with_reducible rfl))
     try simp only [Act.put, za1, za2, za3, za4, za5, za6]
     refine zt 15 ?_ rfl (by kernel_rfl) (fun _ _ _ h => h) ⟨rfl, ?_⟩ hHeld ?_
     rotate_left
     focus (intro wx hSw; (try dsimp only at hSw); (try go_split_ands); go_simp; (try with_reducible rfl))
     try simp only [Act.put, za1, za2, za3, za4, za5, za6]
     refine zt 16 ?_ rfl (by kernel_rfl) (fun _ _ _ h => h) ⟨rfl, ?_⟩ hHeld ?_
     rotate_left
     focus (intro wx hSw; (try dsimp only at hSw); (try go_split_ands); go_simp; (try with_reducible rfl))
     try simp only [Act.put, za1, za2, za3, za4, za5, za6]
     refine zt 17 ?_ rfl (by kernel_rfl) (fun _ _ _ h => h) ⟨rfl, ?_⟩ hHeld ?_
     rotate_left
     focus (intro wx hSw; (try dsimp only at hSw); (try go_split_ands); go_simp; (try with_reducible rfl))
     try simp only [Act.put, za1, za2, za3, za4, za5, za6]
     refine zt 22 ?_ rfl (by kernel_rfl) (fun _ _ _ h => h) ⟨rfl, ?_⟩ hHeld ?_
     rotate_left
     focus (intro wx hSw; (try dsimp only at hSw); (try go_split_ands); go_simp; (try with_reducible rfl))
     try simp only [Act.put, za1, za2, za3, za4, za5, za6]
     refine zt 23 ?_ rfl (by kernel_rfl) (fun _ _ _ h => h) ⟨rfl, ?_⟩ hHeld ?_
     rotate_left
     focus (intro wx hSw; (try dsimp only at hSw); (try go_split_ands); go_simp; (try with_reducible rfl))
     try simp only [Act.put, za1, za2, za3, za4, za5, za6]
     refine wpAnyH_ready (rs := [10]) (by kernel_rfl) (by simp) (AllReadyH.cons rfl (fun K hK => ?_) AllReadyH.nil)
     go_simp
     (go_at_call 117; (with_reducible refine (HV3.out _).mono ?_); rintro e w' ⟨rfl, rfl⟩)
     go_wp2_with fail
     refine hK.out _ _ ?_ (fun hHeld => ?_)
     · ((try dsimp only); (try dsimp only at hHeld); (first | exact hHeld | (simp; done) | (simp; omega)))
     clear hK K
     try dsimp only at hHeld
     try simp only [Act.put, za1, za2, za3, za4, za5, za6]
     refine zt 11 ?_ rfl (by kernel_rfl) (fun _ _ _ h => h) ⟨rfl, ?_⟩ hHeld ?_
     rotate_left
     focus (intro wx hSw; (try dsimp only at hSw); (try go_split_ands); go_simp; (try with_reducible rfl))
     try simp only [Act.put, za1, za2, za3, za4, za5, za6]
     refine wpAnyH_ready (rs := [18]) (by kernel_rfl) (by simp) (AllReadyH.cons rfl (fun K hK => ?_) AllReadyH.nil)
     go_simp
     (go_at_call 117; (with_reducible refine (HV4.out _).mono ?_); rintro e w' ⟨rfl, rfl⟩)
     go_wp2_with fail
     refine hK.out _ _ ?_ (fun hHeld => ?_)
     · ((try dsimp only); (try dsimp only at hHeld); (first | exact hHeld | (simp; done) | (simp; omega)))
     clear hK K
     try dsimp only at hHeld
     try simp only [Act.put, za1, za2, za3, za4, za5, za6]
     refine zt 19 ?_ rfl (by kernel_rfl) (fun _ _ _ h => h) ⟨rfl, ?_⟩ hHeld ?_
     rotate_left
     focus (intro wx hSw; (try dsimp only at hSw); (try go_split_ands); go_simp; (try with_reducible rfl))
     try simp only [Act.put, za1, za2, za3, za4, za5, za6]
     refine zt 20 ?_ rfl (by kernel_rfl) (fun _ _ _ h => h) ⟨rfl, ?_⟩ hHeld ?_
     rotate_left
     focus (intro wx hSw; (try dsimp only at hSw); (try go_split_ands); go_simp; (try with_reducible rfl))
     try simp only [Act.put, za1, za2, za3, za4, za5, za6]
     refine zt 21 ?_ rfl (by kernel_rfl) (fun _ _ _ h => h) ⟨rfl, ?_⟩ hHeld ?_
     rotate_left
     focus (intro wx hSw; (try dsimp only at hSw); (try go_split_ands); go_simp; (try with_reducible rfl))
     try simp only [Act.put, za1, za2, za3, za4, za5, za6]
     refine wpAnyH_ready (rs := [24]) (by kernel_rfl) (by simp) (AllReadyH.cons rfl (fun K hK => ?_) AllReadyH.nil)
     go_simp
     refine hK.out _ _ ?_ (fun hHeld => ?_)
     · ((try dsimp only); (try dsimp only at hHeld); (first | exact hHeld | (simp; done) | (simp; omega)))
     clear hK K
     try dsimp only at hHeld
     try simp only [Act.put, za1, za2, za3, za4, za5, za6]
     refine zt 25 ?_ rfl (by kernel_rfl) (fun _ _ _ h => h) ⟨rfl, ?_⟩ hHeld ?_
     rotate_left
     focus (intro wx hSw; (try dsimp only at hSw); (try go_split_ands); go_simp; (try with_reducible rfl))
     try simp only [Act.put, za1, za2, za3, za4, za5, za6]
     refine zt 26 ?_ rfl (by kernel_rfl) (fun _ _ _ h => h) ⟨rfl, ?_⟩ hHeld ?_
     rotate_left
     focus (intro wx hSw; (try dsimp only at hSw); (try go_split_ands); go_simp; (try with_reducible rfl))
     try simp only [Act.put, za1, za2, za3, za4, za5, za6]
     refine wpAnyH_done (by kernel_rfl) ?_ _
     go_wp2
     obtain ⟨y0, y1, y2⟩ := HX6.out
     exact bodyPost_ret (v := .tuple #[.agg #[.string S2, .int .u32 (P : Int), .int .u16 (Q : Int)], .int .i64 ((at_ : Int) + 2 + (K : Int) + 6), .bool true]) (by simp [results, Tryz.results118, go_sem, y0, y1, y2]) rfl ⟨by rw [HF.out.1, hK'.out, ← HF.out.2], (ball (ball (Below.refl _ _) _) _).drew⟩
end
end
end Go.Proofs.YtebobcbaloddaaaGreat
namespace Go.Proofs.YtebobcbaloddaaaGreat
section
set_option linter.unusedSimpArgs false
set_option linter.unusedVariables false
open Go.RowKit
theorem own_hiZ {w : World} {base : Nat} {e : TypeId} {size n c : Nat} {A : Option Addr} {xs : List Value} (h : w.ownsRow base e size (.slice A n c) n xs) : ∀ ad, A = some ad → base ≤ ad.block := by
 rintro ad rfl
 rcases h.2 with ⟨e, _⟩ | ⟨g, cap, cur, e, hb, _⟩
 · injection e with e; cases e
 · injection e with e
   injection e with e
   subst e
   exact hb
theorem rdMany_at : ∀ (n : Nat) (r : List UInt8) (j : Nat), j < n → (rdMany n r)[j]? = some (rdE (rdRest j r))
 | 0, _, _, h => absurd h (by omega)
 | n + 1, r, 0, _ => rfl
 | n + 1, r, j + 1, h => by rw [rdMany, List.getElem?_cons_succ, rdMany_at n _ j (by omega)]; rfl
theorem rdSh_at : ∀ (n : Nat) (r : List UInt8) (j : Nat), j < n → rdS (rdRest j r) = true → rdSh n r = true
 | 0, _, _, h, _ => absurd h (by omega)
 | n + 1, r, 0, _, h => by rw [rdSh]; show (rdS r || _) = true; rw [show rdS r = true from h]; rfl
 | n + 1, r, j + 1, h, hs => by rw [rdSh, rdSh_at n _ j (by omega) hs]; simp
theorem riMany_at : ∀ (n : Nat) (r : List UInt8) (j : Nat), j < n → (riMany n r)[j]? = some (rdE (riRest j r), riC (riRest j r))
 | 0, _, _, h => absurd h (by omega)
 | n + 1, r, 0, _ => rfl
 | n + 1, r, j + 1, h => by rw [riMany, List.getElem?_cons_succ, riMany_at n _ j (by omega)]; rfl
theorem riSh_at : ∀ (n : Nat) (r : List UInt8) (j : Nat), j < n → riS (riRest j r) = true → riSh n r = true
 | 0, _, _, h, _ => absurd h (by omega)
 | n + 1, r, 0, _, h => by rw [riSh]; show (riS r || _) = true; rw [show riS r = true from h]; rfl
 | n + 1, r, j + 1, h, hs => by rw [riSh, riSh_at n _ j (by omega) hs]; simp
def small (l : List En) : Bool := l.all fun e => decide (e.s.size ≤ 200)
theorem small_mayEn (l : List En) : mayEn l = (small l && riseE l) := rfl
theorem small_false {l : List En} {j : Nat} {e : En} (h : l[j]? = some e) (hs : 200 < e.s.size) : mayEn l = false := by
 rw [small_mayEn]
 have : small l = false := by
  unfold small
  rw [Bool.eq_false_iff]
  intro hh
  rw [List.all_eq_true] at hh
  have := hh _ (List.mem_of_getElem? h)
  simp only [decide_eq_true_iff] at this
  omega
 rw [this]; rfl
def okLeaf (L : List UInt8) : Bool := !rdSh (hdC L) (L.drop 8) && allZ (rdRest (hdC L) (L.drop 8)) && mayEn (rdMany (hdC L) (L.drop 8))
def RetPg11 (w : World) (kind : Int) (N : Nat) (ch : List Nat) (l : List En) : Bool → Ending → World → Prop
 | true, e, w' => ∃ A c A2 c2, e = .returned (.tuple #[.int .i64 kind, .int .u32 (N : Int), .slice A ch.length c, .slice A2 l.length c2]) ∧ Reads w' w'.heap.size 1 A ch.length (vN ch) ∧ Reads w' w'.heap.size 3 A2 l.length (vE l) ∧ Below w.heap.size w w' ∧ (∀ ad, A = some ad → w.heap.size ≤ ad.block) ∧ (∀ ad, A2 = some ad → w.heap.size ≤ ad.block)
 | false, e, w' => ∃ v3 v4, e = .returned (.tuple #[.int .i64 (-1), .int .u32 0, v3, v4]) ∧ Below w.heap.size w w'
def RetPgNo (w : World) (e : Ending) (w' : World) : Prop := ∃ v3 v4, e = .returned (.tuple #[.int .i64 (-1), .int .u32 0, v3, v4]) ∧ Below w.heap.size w w'
def hdBad (L : List UInt8) : Prop := hdOk L = false ∨ (hdK L ≠ 2 ∧ hdK L ≠ 3) ∨ (hdK L = 3 ∧ (hdN L ≠ 0 ∨ hdC L = 0))
set_option maxRecDepth 100000 in
set_option maxHeartbeats 4000000 in
theorem page_bad (L : List UInt8) (hL : L.length ≤ 1000) (h : hdBad L) (w : World) :
 Calls Tryz.prog 99 #[.string (str L)] w (RetPgNo w) := by
 have G := fun W => rhget_any L (by omega) W
 unfold RetHd at G
 by_cases ho : hdOk L = true
 rotate_left
 · have ho' : hdOk L = false := by simpa using ho
   have hv : hdV L = .agg #[.int .u8 0, .int .u16 0, .int .u32 0] := by unfold hdV; rw [ho']; rfl
   rw [hv, ho'] at G
   have HG := Lib.hid G
   clear G ho ho' hv h
   go_enter Tryz.func99, Tryz.ntmps99
   go_wp2_with fail
   refine (HG.out _).mono ?_
   rintro e w1 ⟨rfl, hb1⟩
   go_wp2
   refine bodyPost_ret (v := .tuple #[.int .i64 (-1), .int .u32 0, _, _]) (by simp [results, Tryz.results99, go_sem]; exact ⟨rfl, rfl⟩) rfl ⟨_, _, rfl, by (with_reducible repeat (first | exact Below.refl _ _ | exact hb1 | refine bto0 ?_ hb1 | refine bdr ?_ _ | refine Below.drew ?_ | refine ball ?_ _))⟩
 · have hv : hdV L = .agg #[.int .u8 (hdK L : Int), .int .u16 (hdC L : Int), .int .u32 (hdN L : Int)] := by unfold hdV; rw [ho]; rfl
   rw [hv, ho] at G
   have h' : (hdK L ≠ 2 ∧ hdK L ≠ 3) ∨ (hdK L = 3 ∧ (hdN L ≠ 0 ∨ hdC L = 0)) := by
    rcases h with h | h
    · rw [ho] at h; cases h
    · exact h
   generalize hdK L = K at *
   generalize hdC L = C at *
   generalize hdN L = N at *
   have HG := Lib.hid G
   clear G ho hv h
   rcases h' with ⟨h2, h3⟩ | ⟨rfl, h4⟩
   · have e1 : ((K : Int) != 2) = true := by simp; omega
     have e2 : ((K : Int) == 2) = false := by simp; omega
     have e3 : ((K : Int) != 3) = true := by simp; omega
     have e4 : ((K : Int) == 3) = false := by simp; omega
     have e5 : (K != 2) = true := by simp; omega
     have e6 : (K == 2) = false := by simp; omega
     have e7 : (K != 3) = true := by simp; omega
     have e8 : (K == 3) = false := by simp; omega
     clear h2 h3
     go_enter Tryz.func99, Tryz.ntmps99
     go_wp2_with fail
     refine (HG.out _).mono ?_
     rintro e w1 ⟨rfl, hb1⟩
     go_wp2
     refine bodyPost_ret (v := .tuple #[.int .i64 (-1), .int .u32 0, _, _]) (by simp [results, Tryz.results99, go_sem]; exact ⟨rfl, rfl⟩) rfl ⟨_, _, rfl, by (with_reducible repeat (first | exact Below.refl _ _ | exact hb1 | refine bto0 ?_ hb1 | refine bdr ?_ _ | refine Below.drew ?_ | refine ball ?_ _))⟩
   · by_cases hN : N = 0
     · have hC : C = 0 := by rcases h4 with h | h; exact absurd hN h; exact h
       have e1 : ((N : Int) != 0) = false := by simp; omega
       have e2 : ((N : Int) == 0) = true := by simp; omega
       have e3 : (N != 0) = false := by simp; omega
       have e4 : (N == 0) = true := by simp; omega
       have e5 : ((C : Int) == 0) = true := by simp; omega
       have e6 : (C == 0) = true := by simp; omega
       clear hN hC h4
       go_enter Tryz.func99, Tryz.ntmps99
       go_wp2_with fail
       refine (HG.out _).mono ?_
       rintro e w1 ⟨rfl, hb1⟩
       go_wp2
       refine bodyPost_ret (v := .tuple #[.int .i64 (-1), .int .u32 0, _, _]) (by simp [results, Tryz.results99, go_sem]; exact ⟨rfl, rfl⟩) rfl ⟨_, _, rfl, by (with_reducible repeat (first | exact Below.refl _ _ | exact hb1 | refine bto0 ?_ hb1 | refine bdr ?_ _ | refine Below.drew ?_ | refine ball ?_ _))⟩
     · have e1 : ((N : Int) != 0) = true := by simp; omega
       have e2 : ((N : Int) == 0) = false := by simp; omega
       have e3 : (N != 0) = true := by simp; omega
       have e4 : (N == 0) = false := by simp; omega
       clear hN h4
       go_enter Tryz.func99, Tryz.ntmps99
       go_wp2_with fail
       refine (HG.out _).mono ?_
       rintro e w1 ⟨rfl, hb1⟩
       go_wp2
       refine bodyPost_ret (v := .tuple #[.int .i64 (-1), .int .u32 0, _, _]) (by simp [results, Tryz.results99, go_sem]; exact ⟨rfl, rfl⟩) rfl ⟨_, _, rfl, by (with_reducible repeat (first | exact Below.refl _ _ | exact hb1 | refine bto0 ?_ hb1 | refine bdr ?_ _ | refine Below.drew ?_ | refine ball ?_ _))⟩
end
end Go.Proofs.YtebobcbaloddaaaGreat
namespace Go.Proofs.YtebobcbaloddaaaGreat
section
set_option linter.unusedSimpArgs false
set_option linter.unusedVariables false
open Go.RowKit
set_option maxRecDepth 100000 in
set_option maxHeartbeats 8000000 in
theorem page_leaf (L : List UInt8) (ho : hdOk L = true) (hk : hdK L = 2) (w : World) :
 Calls Tryz.prog 99 #[.string (str L)] w (RetPg11 w 0 (hdN L) [] (rdMany (hdC L) (L.drop 8)) (okLeaf L)) := by
 have hl : L.length = 512 := by unfold hdOk at ho; rw [Bool.and_eq_true] at ho; simpa using ho.1
 have G := fun W => rhget_any L (by omega) W
 unfold RetHd at G
 have hv : hdV L = .agg #[.int .u8 2, .int .u16 (hdC L : Int), .int .u32 (hdN L : Int)] := by unfold hdV; rw [ho, hk]; rfl
 rw [hv, ho] at G
 have hOK : okLeaf L = (!rdSh (hdC L) (L.drop 8) && allZ (rdRest (hdC L) (L.drop 8)) && mayEn (rdMany (hdC L) (L.drop 8))) := rfl
 rw [hOK]
 have hC2 : hdC L ≤ 65535 := by
  have := beVal_lt_of (l := (L.drop 2).take 2) (n := 2) (by rw [List.length_take]; omega)
  unfold hdC; omega
 generalize hdN L = N at *
 generalize hdC L = C at *
 generalize hr0 : (L.drop 8) = r0 at *
 have HG := Lib.hid G
 have hz := str_size L
 have hzI : ((str L).size : Int) = 512 := by rw [hz, hl]; rfl
 have hz5 : (str L).size = 512 := by rw [hz, hl]
 have Hl := Lib.hid hl
 have Hr0 := Lib.hid hr0
 have hCI : (C : Int) ≤ 65535 := by omega
 clear G ho hk hv hr0 hOK hz hzI
 obtain ⟨i0, hi0, hz0, hs0, hy0⟩ := int_info8 Tryz.infoE
 obtain ⟨i1, hi1, hz1, hs1, hy1⟩ := int_info8 Tryz.infoN
 go_enter Tryz.func99, Tryz.ntmps99
 go_wp2_with fail
 refine (HG.out _).mono ?_
 rintro e w1 ⟨rfl, hb1⟩
 have X0 := ((Blk.new w1 184 #[.int .u8 2, .int .u16 (C : Int), .int .u32 (N : Int)]).alloc (.cells #[] 37)).alloc (.cells #[] 30)
 have hbA : Below w.heap.size w (((w1.alloc (.cells #[.int .u8 2, .int .u16 (C : Int), .int .u32 (N : Int)] 184)).alloc (.cells #[] 37)).alloc (.cells #[] 30)) := ball (ball (ball hb1 _) _) _
 have hsA : (((w1.alloc (.cells #[.int .u8 2, .int .u16 (C : Int), .int .u32 (N : Int)] 184)).alloc (.cells #[] 37)).alloc (.cells #[] 30)).heap.size = w1.heap.size + 3 := by simp
 have ownE : (((w1.alloc (.cells #[.int .u8 2, .int .u16 (C : Int), .int .u32 (N : Int)] 184)).alloc (.cells #[] 37)).alloc (.cells #[] 30)).ownsRow (w1.heap.size + 1) 37 3 (.slice (some ⟨w1.heap.size + 1, 0, none⟩) 0 0) 0 [] := by
  have h := (own_empty (w1.alloc (.cells #[.int .u8 2, .int .u16 (C : Int), .int .u32 (N : Int)] 184)) 37 3 (g := w1.heap.size + 1) (by simp)).alloc (.cells #[] 30)
  simpa using h
 have ownC : (((w1.alloc (.cells #[.int .u8 2, .int .u16 (C : Int), .int .u32 (N : Int)] 184)).alloc (.cells #[] 37)).alloc (.cells #[] 30)).ownsRow (w1.heap.size + 1) 30 1 (.slice (some ⟨w1.heap.size + 1 + 1, 0, none⟩) 0 0) 0 [] := by
  have h := own_empty ((w1.alloc (.cells #[.int .u8 2, .int .u16 (C : Int), .int .u32 (N : Int)] 184)).alloc (.cells #[] 37)) 30 1 (g := w1.heap.size + 1 + 1) (by simp)
  exact World.ownsRow.mono h (by simp)
 have HA := Lib.hid (And.intro X0 (And.intro hbA (And.intro ownE (And.intro ownC hsA))))
 have hhw : w.heap.size ≤ w1.heap.size := hb1.size
 clear X0 hbA hsA ownE ownC hb1
 go_wp2_with fail
 obtain ⟨X0, hbA, ownE, ownC, hsA⟩ := HA.out
 obtain ⟨WA, hWA⟩ : ∃ WA, ((w1.alloc (.cells #[.int .u8 2, .int .u16 (C : Int), .int .u32 (N : Int)] 184)).alloc (.cells #[] 37)).alloc (.cells #[] 30) = WA := ⟨_, rfl⟩
 rw [hWA] at X0 hbA ownE ownC hsA ⊢
 clear hWA HA
 obtain ⟨h, hh⟩ : ∃ h, w1.heap.size = h := ⟨_, rfl⟩
 rw [hh] at X0 ownE ownC hsA hhw ⊢
 clear hh
 have hsA2 : h + 1 ≤ WA.heap.size := by omega
 have c00 : WA.cell? ⟨h, 0, none⟩ = some (.int .u8 2) := X0.cell 0
 have c01 : WA.cell? ⟨h, 1, none⟩ = some (.int .u16 (C : Int)) := X0.cell 1
 go_wp2_with fail
 clear c00 c01
 go_loopw [8, 9, 10, 11] (fun lv cv pv iv wr => ∃ (j P : Nat), j ≤ C ∧ iv = .int .i64 (j : Int) ∧ pv = .int .i64 (P : Int) ∧ P ≤ 512 ∧ L.drop P = rdRest j r0 ∧ rdSh j r0 = false ∧ small (rdMany j r0) = true ∧ wr.ownsRow (h + 1) 37 3 lv j (vE (rdMany j r0)) ∧ cv = .slice (some ⟨h + 1 + 1, 0, none⟩) 0 0 ∧ Blk wr h 184 #[.int .u8 2, .int .u16 (C : Int), .int .u32 (N : Int)] ∧ Below w.heap.size w wr ∧ h + 1 ≤ wr.heap.size) (fun _ _ _ iv _ => C - (intOf iv).toNat)
 case atStart => exact ⟨0, 8, by omega, rfl, rfl, by omega, Hr0.out, rfl, rfl, ownE, rfl, X0, hbA, hsA2⟩
 case round =>
  clear X0 hbA hsA2 ownE ownC hsA
  obtain ⟨j, P, hj, rfl, rfl, hP, hdrop, hsh, hsm, hownE, rfl, hX, hb, hsz⟩ := hrel
  have q0 : (0 : Int) ≤ (j : Int) := by omega
  have p0 : (0 : Int) ≤ (P : Int) := by omega
  have p1 : (P : Int) ≤ 512 := by omega
  have c00 : wr.cell? ⟨h, 0, none⟩ = some (.int .u8 2) := hX.cell 0
  have c01 : wr.cell? ⟨h, 1, none⟩ = some (.int .u16 (C : Int)) := hX.cell 1
  have wC : IntKind.i64.wrap (C : Int) = (C : Int) := IntWalk.i64_in _ (by omega)
  by_cases hlt : j < C
  · have q1 : (j : Int) < (C : Int) := by omega
    have ON := one_any L P (by rw [Hl.out]; exact hP) (by rw [Hl.out]; omega) wr
    rw [hdrop] at ON
    by_cases hok1 : oneOk (rdRest j r0) = true
    rotate_left
    · have hok' : oneOk (rdRest j r0) = false := by simpa using hok1
      have hF : (!rdSh C r0 && allZ (rdRest C r0) && mayEn (rdMany C r0)) = false := by
       unfold oneOk at hok'
       by_cases hss : rdS (rdRest j r0) = true
       · have := rdSh_at C r0 j hlt hss
         rw [this]; rfl
       · have hs' : rdS (rdRest j r0) = false := by simpa using hss
         rw [hs'] at hok'
         have hk2 : 200 < keyN (rdRest j r0) := by simp at hok'; exact hok'
         have := small_false (rdMany_at C r0 j hlt) (by rw [rdE_size]; exact hk2)
         rw [this, Bool.and_false]
      rw [hok'] at ON
      have HON := Lib.hid ON
      have HF := Lib.hid hF
      clear ON hok1 hok' hF hdrop hsh hsm
      go_wp2_with fail
      refine HON.out.mono ?_
      rintro e w3 ⟨rfl, hb3⟩
      have hbw3 := bto0 hb hb3
      unfold zeroEn
      go_wp2
      refine bodyPost_ret (v := .tuple #[.int .i64 (-1), .int .u32 0, _, _]) (by simp [results, Tryz.results99, go_sem]; exact ⟨rfl, rfl⟩) rfl ?_
      rw [HF.out]
      exact ⟨_, _, rfl, by (with_reducible repeat (first | exact hbw3 | refine ball ?_ _))⟩
    · rw [hok1] at ON
      have hs0 : rdS (rdRest j r0) = false := by unfold oneOk at hok1; rw [Bool.and_eq_true] at hok1; simpa using hok1.1
      have hk2 : keyN (rdRest j r0) ≤ 200 := by unfold oneOk at hok1; rw [Bool.and_eq_true] at hok1; simpa using hok1.2
      have hge := (rdS_iff _).1 hs0
      have hPl : P + (8 + keyN (rdRest j r0)) ≤ 512 := by rw [← hdrop, List.length_drop, Hl.out] at hge; rw [← hdrop]; omega
      have hdr : L.drop (P + (8 + keyN (rdRest j r0))) = rdR (rdRest j r0) := by rw [(rd_form hs0).2.1, ← hdrop, List.drop_drop]
      obtain ⟨st1, st2, st3⟩ := rd_step j r0
      have hsh' : rdSh (j + 1) r0 = false := by rw [st3, hsh, hs0]; rfl
      have hsm' : small (rdMany (j + 1) r0) = true := by
       rw [st1]; unfold small at hsm ⊢; rw [List.all_append, hsm]; simp [rdE_size, hk2]
      have HST := Lib.hid (And.intro st1 (And.intro st2 (And.intro hsh' (And.intro hsm' hdr))))
      clear st1 st2 st3 hsh' hsm' hdr hsh hsm hok1 hs0 hge
      obtain ⟨K, hK⟩ : ∃ K, P + (8 + keyN (rdRest j r0)) = K := ⟨_, rfl⟩
      unfold RetOne at ON
      rw [hK] at ON HST hPl
      have k0 : (K : Int) ≤ 512 := by omega
      obtain ⟨E, hE⟩ : ∃ E, rdE (rdRest j r0) = E := ⟨_, rfl⟩
      rw [hE] at ON HST
      obtain ⟨es, ep, eq⟩ := E
      unfold En.agg at ON
      have HON := Lib.hid ON
      clear ON hE hK hk2 hdrop
      simp only at HON
      go_wp2_with fail
      refine HON.out.mono ?_
      rintro e w3 ⟨rfl, hb3⟩
      have hownE3 := (own_below hownE hb3).alloc (.cells #[.string es, .int .u32 ep, .int .u16 eq] 37)
      have hX3 := (hX.below hb3 hX.lt).alloc (.cells #[.string es, .int .u32 ep, .int .u16 eq] 37)
      have hb3' : Below w.heap.size w (w3.alloc (.cells #[.string es, .int .u32 ep, .int .u16 eq] 37)) := ball (bto0 hb hb3) _
      have hsz3 : h + 1 ≤ (w3.alloc (.cells #[.string es, .int .u32 ep, .int .u16 eq] 37)).heap.size := by have := hb3.size; simp; omega
      have d00 : (w3.alloc (.cells #[.string es, .int .u32 ep, .int .u16 eq] 37)).cell? ⟨h, 0, none⟩ = some (.int .u8 2) := hX3.cell 0
      clear hownE hX c00 c01
      have H3 := Lib.hid (And.intro hownE3 (And.intro hX3 (And.intro hb3' hsz3)))
      clear hownE3 hX3 hb3'
      go_wp2_with (at_builtin; go_loud (refine wpList_pushX (news := En.cells ⟨es, ep, eq⟩) rfl _ _ 22 rfl (h + 1) 37 i0 _ 3 24 Tryz.underlying22 hi0 hz0 hs0 hy0 rfl (by decide) u8 j _ rfl H3.out.1 rfl (w3.heap.size + 1) rfl (by simp) rfl (cells_oneE _) (by omega) (by omega) H3.out.2.2.2 ?_); intro v4 w4 hownE4 hg4; have d04 : w4.cell? ⟨h, 0, none⟩ = some (.int .u8 2) := (H3.out.2.1.below (belowX_grown H3.out.1 (Nat.le_refl _) H3.out.2.2.2 hg4 (Below.refl _ _)) (by omega)).cell 0)
      have hk4 := belowX_grown H3.out.1 (Nat.le_refl _) H3.out.2.2.2 hg4 (Below.refl _ _)
      have hb4 : Below w.heap.size w w4 := belowX_grown H3.out.1 (by omega) H3.out.2.2.2 hg4 H3.out.2.2.1
      go_roundw
      case rel => exact ⟨j + 1, K, by omega, by go_num, rfl, hPl, by rw [HST.out.2.1]; exact HST.out.2.2.2.2, HST.out.2.2.1, HST.out.2.2.2.1, by rw [HST.out.1, vE_snoc]; exact hownE4, rfl, H3.out.2.1.below hk4 (by omega), hb4, Nat.le_trans hsz3 hk4.size⟩
      case measure => simp [intOf]; omega
  · obtain rfl : j = C := by omega
    obtain ⟨R, hR⟩ : ∃ R, rdRest j r0 = R := ⟨_, rfl⟩
    rw [hR] at hdrop
    have hM : mayEn (rdMany j r0) = riseE (rdMany j r0) := by rw [small_mayEn, hsm]; rfl
    have HD := Lib.hid hdrop
    have HF := Lib.hid (And.intro hsh (And.intro hR hM))
    clear hsh hR hM hsm hdrop
    go_wp2_with fail
    go_loop [15] (fun iv => ∃ m : Nat, P ≤ m ∧ m ≤ 512 ∧ iv = .int .i64 (m : Int) ∧ allZ R = allZ (L.drop m)) (fun iv => 512 - (intOf iv).toNat)
    case atStart => exact ⟨P, Nat.le_refl _, hP, rfl, by rw [HD.out]⟩
    case round =>
     obtain ⟨m, hm0, hm1, rfl, hz⟩ := hrel
     have Hz := Lib.hid hz; clear hz
     have m0 : (0 : Int) ≤ (m : Int) := by omega
     by_cases hm : m < 512
     · have m1 : (m : Int) < 512 := by omega
       have g1 : m < (str L).size := by omega
       have hx : L[m]? = some (L[m]'(by rw [Hl.out]; exact hm)) := List.getElem?_eq_getElem _
       have hg := str_get g1 hx
       have hzd := allZ_drop hx
       obtain ⟨x, hxe⟩ : ∃ x, L[m]'(by rw [Hl.out]; exact hm) = x := ⟨_, rfl⟩
       rw [hxe] at hg hzd
       have Hzd := Lib.hid hzd
       clear hx hxe hzd
       by_cases hx0 : x = 0
       · subst hx0
         have e0 : (str L)[m].toNat = 0 := by rw [hg]; rfl
         have hnx : Hid (allZ R = allZ (L.drop (m + 1))) := Lib.hid (by rw [Hz.out, Hzd.out]; rfl)
         clear hg Hz Hzd
         go_wp2
         go_round
         case rel => exact ⟨m + 1, by omega, by omega, by go_num, hnx.out⟩
         case measure => simp [intOf]; omega
       · have hnx : Hid (allZ R = false) := Lib.hid (by rw [Hz.out, Hzd.out]; simp [hx0])
         have hx1 : x.toNat ≠ 0 := fun e => hx0 (UInt8.toNat_inj.1 e)
         have e1 : ((str L)[m].toNat == 0) = false := by rw [hg]; simpa using hx1
         have e2 : (((str L)[m].toNat : Int) == 0) = false := by rw [hg]; simp; omega
         have e3 : ((str L)[m].toNat != 0) = true := by rw [hg]; simpa using hx1
         have e4 : (((str L)[m].toNat : Int) != 0) = true := by rw [hg]; simp; omega
         clear hg Hz Hzd hx0 hx1
         go_wp2
         refine bodyPost_ret (v := .tuple #[.int .i64 (-1), .int .u32 0, _, _]) (by simp [results, Tryz.results99, go_sem]; exact ⟨rfl, rfl⟩) rfl ?_
         rw [HF.out.2.1, hnx.out, Bool.and_false, Bool.false_and]
         exact ⟨_, _, rfl, by (with_reducible repeat (first | exact hb | refine ball ?_ _))⟩
     · obtain rfl : m = 512 := by omega
       have hZ : allZ R = true := by rw [Hz.out, List.drop_eq_nil_of_le (by rw [Hl.out]; exact Nat.le_refl _)]; rfl
       have HZ := Lib.hid hZ
       clear hZ Hz
       obtain ⟨A5, c5, rfl, hc5⟩ := own_form hownE
       have hro := Reads.of_own hownE
       have RI := rriseE_any A5 j c5 (rdMany j r0) wr hro (by omega)
       by_cases hri : riseE (rdMany j r0) = true
       rotate_left
       · have hri' : riseE (rdMany j r0) = false := by simpa using hri
         rw [hri'] at RI
         have HRI := Lib.hid RI
         have Hri := Lib.hid hri'
         clear RI hri hri'
         go_wp2_with fail
         refine HRI.out.mono ?_
         rintro e w3 ⟨rfl, hb3⟩
         have hbw3 := bto0 hb hb3
         go_wp2
         refine bodyPost_ret (v := .tuple #[.int .i64 (-1), .int .u32 0, _, _]) (by simp [results, Tryz.results99, go_sem]; exact ⟨rfl, rfl⟩) rfl ?_
         rw [HF.out.2.2, Hri.out, Bool.and_false]
         exact ⟨_, _, rfl, by (with_reducible repeat (first | exact hbw3 | refine ball ?_ _))⟩
       · rw [hri] at RI
         have HRI := Lib.hid RI
         have Hri := Lib.hid hri
         clear RI hri
         go_wp2_with fail
         refine HRI.out.mono ?_
         rintro e w3 ⟨rfl, hb3⟩
         have hX3 := hX.below hb3 hX.lt
         have d00 : w3.cell? ⟨h, 0, none⟩ = some (.int .u8 2) := hX3.cell 0
         have d02 : w3.cell? ⟨h, 2, none⟩ = some (.int .u32 (N : Int)) := hX3.cell 2
         clear c00 c01
         go_wp2_with fail
         go_quiet (fail)
         go_wp2
         have hbw3 := bto0 hb hb3
         refine bodyPost_ret (v := .tuple #[.int .i64 0, .int .u32 (N : Int), _, .slice A5 j c5]) (by simp [results, Tryz.results99, go_sem]; exact rfl) rfl ?_
         rw [HF.out.1, HF.out.2.1, HZ.out, HF.out.2.2, Hri.out]
         refine ⟨_, 0, A5, c5, by rw [rdMany_len]; rfl, Reads.none_, ?_, bdr hbw3 _, fun ad e => ?_, fun ad e => by have := own_hiZ hownE ad e; omega⟩
         · rw [rdMany_len]
           exact ((hro.below hb3).more hb3.size)
         · injection e with e
           rw [← e]
           show w.heap.size ≤ h + 1 + 1
           omega
end
end Go.Proofs.YtebobcbaloddaaaGreat
namespace Go.Proofs.YtebobcbaloddaaaGreat
section
set_option linter.unusedSimpArgs false
set_option linter.unusedVariables false
open Go.RowKit
def okInner (L : List UInt8) : Bool := !riSh (hdC L) (dr (L.drop 8) 4) && allZ (riRest (hdC L) (dr (L.drop 8) 4)) && mayEn ((riMany (hdC L) (dr (L.drop 8) 4)).map Prod.fst)
theorem dr4 {L : List UInt8} (h : hdOk L = true) : dr (L.drop 8) 4 = L.drop 12 := by
 have hl : L.length = 512 := by unfold hdOk at h; rw [Bool.and_eq_true] at h; simpa using h.1
 rw [dr_ge (by rw [List.length_drop]; omega), List.drop_drop]
set_option maxRecDepth 100000 in
set_option maxHeartbeats 8000000 in
theorem page_inner (L : List UInt8) (ho : hdOk L = true) (hk : hdK L = 3) (hN : hdN L = 0) (hC0 : hdC L ≠ 0) (w : World) :
 Calls Tryz.prog 99 #[.string (str L)] w (RetPg11 w 1 0 (beVal (tk (L.drop 8) 4) :: (riMany (hdC L) (dr (L.drop 8) 4)).map Prod.snd) ((riMany (hdC L) (dr (L.drop 8) 4)).map Prod.fst) (okInner L)) := by
 have hl : L.length = 512 := by unfold hdOk at ho; rw [Bool.and_eq_true] at ho; simpa using ho.1
 have G := fun W => rhget_any L (by omega) W
 unfold RetHd at G
 have hv : hdV L = .agg #[.int .u8 3, .int .u16 (hdC L : Int), .int .u32 0] := by unfold hdV; rw [ho, hk, hN]; rfl
 rw [hv, ho] at G
 have hOK : okInner L = (!riSh (hdC L) (dr (L.drop 8) 4) && allZ (riRest (hdC L) (dr (L.drop 8) 4)) && mayEn ((riMany (hdC L) (dr (L.drop 8) 4)).map Prod.fst)) := rfl
 rw [hOK]
 have hd4 := dr4 ho
 have sl0 : ∀ W, (Instr.slice 9 (.string (str L)) (some (.int .i64 8)) (some (.int .i64 12)) none).run Tryz.prog W = .ok (.string (str ((L.drop 8).take 4))) W := cut_mid (P := Tryz.prog) Tryz.underlying9 L ((L.drop 8).take 4) .i64 .i64 8 12 (by omega) (by omega) (by omega) rfl
 have V0 := fun W => dval_any ((L.drop 8).take 4) (by rw [List.length_take]; omega) W
 have hc0e : tk (L.drop 8) 4 = (L.drop 8).take 4 := tk_ge (by rw [List.length_drop]; omega)
 have hc0b := beVal_lt_of (l := (L.drop 8).take 4) (n := 4) (by rw [List.length_take]; omega)
 rw [hc0e]
 obtain ⟨c0, hc0⟩ : ∃ c0, beVal ((L.drop 8).take 4) = c0 := ⟨_, rfl⟩
 rw [hc0] at V0 hc0b ⊢
 have w0 : IntKind.u32.wrap (c0 : Int) = (c0 : Int) := by rw [IntKind.wrap_u32]; omega
 have HV0 := Lib.hid V0
 clear V0 hc0e hc0b hc0
 have hC2 : hdC L ≤ 65535 := by
  have := beVal_lt_of (l := (L.drop 2).take 2) (n := 2) (by rw [List.length_take]; omega)
  unfold hdC; omega
 generalize hdN L = N at *
 generalize hdC L = C at *
 generalize hr0 : (dr (L.drop 8) 4) = r0 at *
 have hr0' : L.drop 12 = r0 := hd4.symm
 have c1 : ((C : Int) == 0) = false := by simp; omega
 have c2 : (C == 0) = false := by simp; omega
 clear hd4 hC0
 have HG := Lib.hid G
 have hz := str_size L
 have hzI : ((str L).size : Int) = 512 := by rw [hz, hl]; rfl
 have hz5 : (str L).size = 512 := by rw [hz, hl]
 have Hl := Lib.hid hl
 have Hr0 := Lib.hid hr0'
 have hCI : (C : Int) ≤ 65535 := by omega
 clear G ho hk hv hr0 hOK hz hzI
 obtain ⟨i0, hi0, hz0, hs0, hy0⟩ := int_info8 Tryz.infoE
 obtain ⟨i1, hi1, hz1, hs1, hy1⟩ := int_info8 Tryz.infoN
 go_enter Tryz.func99, Tryz.ntmps99
 go_wp2_with fail
 refine (HG.out _).mono ?_
 rintro e w1 ⟨rfl, hb1⟩
 have X0 := ((Blk.new w1 184 #[.int .u8 3, .int .u16 (C : Int), .int .u32 0]).alloc (.cells #[] 37)).alloc (.cells #[] 30)
 have hbA : Below w.heap.size w (((w1.alloc (.cells #[.int .u8 3, .int .u16 (C : Int), .int .u32 0] 184)).alloc (.cells #[] 37)).alloc (.cells #[] 30)) := ball (ball (ball hb1 _) _) _
 have hsA : (((w1.alloc (.cells #[.int .u8 3, .int .u16 (C : Int), .int .u32 0] 184)).alloc (.cells #[] 37)).alloc (.cells #[] 30)).heap.size = w1.heap.size + 3 := by simp
 have ownE : (((w1.alloc (.cells #[.int .u8 3, .int .u16 (C : Int), .int .u32 0] 184)).alloc (.cells #[] 37)).alloc (.cells #[] 30)).ownsRow (w1.heap.size + 1) 37 3 (.slice (some ⟨w1.heap.size + 1, 0, none⟩) 0 0) 0 [] := by
  have h := (own_empty (w1.alloc (.cells #[.int .u8 3, .int .u16 (C : Int), .int .u32 0] 184)) 37 3 (g := w1.heap.size + 1) (by simp)).alloc (.cells #[] 30)
  simpa using h
 have ownC : (((w1.alloc (.cells #[.int .u8 3, .int .u16 (C : Int), .int .u32 0] 184)).alloc (.cells #[] 37)).alloc (.cells #[] 30)).ownsRow (w1.heap.size + 1) 30 1 (.slice (some ⟨w1.heap.size + 1 + 1, 0, none⟩) 0 0) 0 [] := by
  have h := own_empty ((w1.alloc (.cells #[.int .u8 3, .int .u16 (C : Int), .int .u32 0] 184)).alloc (.cells #[] 37)) 30 1 (g := w1.heap.size + 1 + 1) (by simp)
  exact World.ownsRow.mono h (by simp)
 have HA := Lib.hid (And.intro X0 (And.intro hbA (And.intro ownE (And.intro ownC hsA))))
 have hhw : w.heap.size ≤ w1.heap.size := hb1.size
 clear X0 hbA hsA ownE ownC hb1
 go_wp2_with fail
 refine (HV0.out _).mono ?_
 rintro e w2 ⟨rfl, rfl⟩
 go_wp2_with (at_builtin; go_loud (refine wpList_pushX (news := [.int .u32 (c0 : Int)]) rfl _ _ 73 rfl (w1.heap.size + 1) 30 i1 _ 1 4 Tryz.underlying73 hi1 hz1 hs1 hy1 rfl (by decide) (.slice (some ⟨w1.heap.size + 1 + 1, 0, none⟩) 0 0) 0 _ rfl HA.out.2.2.2.1 rfl (w1.heap.size + 1 + 1 + 1) rfl (by simp) rfl (by intro u hu; rw [List.mem_singleton] at hu; subst hu; rfl) (by omega) (by omega) (by simp) ?_); intro v6 WA hownC6 hg6)
 obtain ⟨X0', hbA', ownE', ownC', hsA'⟩ := HA.out
 have hkA := belowX_grown ownC' (Nat.le_refl _) (by omega) hg6 (Below.refl _ _)
 have ownE := ownX_grown ownC' ownE' (by decide) hg6
 have X0 := X0'.below hkA (by omega)
 have hbA : Below w.heap.size w WA := belowX_grown ownC' (by omega) (by omega) hg6 hbA'
 have hsA : w1.heap.size + 3 ≤ WA.heap.size := by have := hkA.size; omega
 have ownC := hownC6
 rw [List.nil_append] at ownC
 clear X0' hbA' ownE' ownC' hsA' hkA hg6 hownC6 HA
 obtain ⟨h, hh⟩ : ∃ h, w1.heap.size = h := ⟨_, rfl⟩
 rw [hh] at X0 ownE ownC hsA hhw ⊢
 clear hh
 have hsA2 : h + 1 ≤ WA.heap.size := by omega
 have c00 : WA.cell? ⟨h, 0, none⟩ = some (.int .u8 3) := X0.cell 0
 have c01 : WA.cell? ⟨h, 1, none⟩ = some (.int .u16 (C : Int)) := X0.cell 1
 go_wp2_with fail
 clear c00 c01
 go_loopw [8, 9, 10, 11] (fun lv cv pv iv wr => ∃ (j P : Nat), j ≤ C ∧ iv = .int .i64 (j : Int) ∧ pv = .int .i64 (P : Int) ∧ P ≤ 512 ∧ L.drop P = riRest j r0 ∧ riSh j r0 = false ∧ small ((riMany j r0).map Prod.fst) = true ∧ wr.ownsRow (h + 1) 37 3 lv j (vE ((riMany j r0).map Prod.fst)) ∧ wr.ownsRow (h + 1) 30 1 cv (j + 1) (vN (c0 :: (riMany j r0).map Prod.snd)) ∧ Blk wr h 184 #[.int .u8 3, .int .u16 (C : Int), .int .u32 0] ∧ Below w.heap.size w wr ∧ h + 1 ≤ wr.heap.size) (fun _ _ _ iv _ => C - (intOf iv).toNat)
 case atStart => exact ⟨0, 12, by omega, rfl, rfl, by omega, Hr0.out, rfl, rfl, ownE, ownC, X0, hbA, hsA2⟩
 case round =>
  clear X0 hbA hsA2 ownE ownC hsA
  obtain ⟨j, P, hj, rfl, rfl, hP, hdrop, hsh, hsm, hownE, hownC, hX, hb, hsz⟩ := hrel
  have q0 : (0 : Int) ≤ (j : Int) := by omega
  have p0 : (0 : Int) ≤ (P : Int) := by omega
  have p1 : (P : Int) ≤ 512 := by omega
  have c00 : wr.cell? ⟨h, 0, none⟩ = some (.int .u8 3) := hX.cell 0
  have c01 : wr.cell? ⟨h, 1, none⟩ = some (.int .u16 (C : Int)) := hX.cell 1
  have wC : IntKind.i64.wrap (C : Int) = (C : Int) := IntWalk.i64_in _ (by omega)
  by_cases hlt : j < C
  · have q1 : (j : Int) < (C : Int) := by omega
    have ON := one_any L P (by rw [Hl.out]; exact hP) (by rw [Hl.out]; omega) wr
    rw [hdrop] at ON
    by_cases hok1 : oneOk (riRest j r0) = true
    rotate_left
    · have hok' : oneOk (riRest j r0) = false := by simpa using hok1
      have hF : (!riSh C r0 && allZ (riRest C r0) && mayEn ((riMany C r0).map Prod.fst)) = false := by
       unfold oneOk at hok'
       by_cases hss : rdS (riRest j r0) = true
       · have := riSh_at C r0 j hlt (by unfold riS; rw [hss]; rfl)
         rw [this]; rfl
       · have hs' : rdS (riRest j r0) = false := by simpa using hss
         rw [hs'] at hok'
         have hk2 : 200 < keyN (riRest j r0) := by simp at hok'; exact hok'
         have := small_false (show ((riMany C r0).map Prod.fst)[j]? = some (rdE (riRest j r0)) by rw [List.getElem?_map, riMany_at C r0 j hlt]; rfl) (by rw [rdE_size]; exact hk2)
         rw [this, Bool.and_false]
      rw [hok'] at ON
      have HON := Lib.hid ON
      have HF := Lib.hid hF
      clear ON hok1 hok' hF hdrop hsh hsm
      go_wp2_with fail
      refine HON.out.mono ?_
      rintro e w3 ⟨rfl, hb3⟩
      have hbw3 := bto0 hb hb3
      unfold zeroEn
      go_wp2
      refine bodyPost_ret (v := .tuple #[.int .i64 (-1), .int .u32 0, _, _]) (by simp [results, Tryz.results99, go_sem]; exact ⟨rfl, rfl⟩) rfl ?_
      rw [HF.out]
      exact ⟨_, _, rfl, by (with_reducible repeat (first | exact hbw3 | refine ball ?_ _))⟩
    · rw [hok1] at ON
      have hs0 : rdS (riRest j r0) = false := by unfold oneOk at hok1; rw [Bool.and_eq_true] at hok1; simpa using hok1.1
      have hk2 : keyN (riRest j r0) ≤ 200 := by unfold oneOk at hok1; rw [Bool.and_eq_true] at hok1; simpa using hok1.2
      have hge := (rdS_iff _).1 hs0
      have hPl : P + (8 + keyN (riRest j r0)) ≤ 512 := by rw [← hdrop, List.length_drop, Hl.out] at hge; rw [← hdrop]; omega
      have hdr : L.drop (P + (8 + keyN (riRest j r0))) = rdR (riRest j r0) := by rw [(rd_form hs0).2.1, ← hdrop, List.drop_drop]
      obtain ⟨st1, st2, st3⟩ := ri_step j r0
      by_cases h4 : P + (8 + keyN (riRest j r0)) + 4 ≤ 512
      rotate_left
      · have hS : riS (riRest j r0) = true := by
         unfold riS
         rw [hs0, Bool.false_or, decide_eq_true_iff, ← hdr, List.length_drop, Hl.out]; omega
        have hF : (!riSh C r0 && allZ (riRest C r0) && mayEn ((riMany C r0).map Prod.fst)) = false := by rw [riSh_at C r0 j hlt hS]; rfl
        obtain ⟨K, hK⟩ : ∃ K, P + (8 + keyN (riRest j r0)) = K := ⟨_, rfl⟩
        unfold RetOne at ON
        rw [hK] at ON h4 hPl
        have k0 : (K : Int) ≤ 512 := by omega
        have k1 : (512 : Int) < (K : Int) + 4 := by omega
        obtain ⟨E, hE⟩ : ∃ E, rdE (riRest j r0) = E := ⟨_, rfl⟩
        rw [hE] at ON
        obtain ⟨es, ep, eq⟩ := E
        unfold En.agg at ON
        have HON := Lib.hid ON
        have HF := Lib.hid hF
        clear ON hE hK hk2 hdrop st1 st2 st3 hS hF hs0 hge hdr hok1 h4 hPl hsh hsm
        simp only at HON
        go_wp2_with fail
        refine HON.out.mono ?_
        rintro e w3 ⟨rfl, hb3⟩
        have hX3 := (hX.below hb3 hX.lt).alloc (.cells #[.string es, .int .u32 ep, .int .u16 eq] 37)
        have d00 : (w3.alloc (.cells #[.string es, .int .u32 ep, .int .u16 eq] 37)).cell? ⟨h, 0, none⟩ = some (.int .u8 3) := hX3.cell 0
        have hbw3 := bto0 hb hb3
        clear hX3 c00 c01
        go_wp2
        refine bodyPost_ret (v := .tuple #[.int .i64 (-1), .int .u32 0, _, _]) (by simp [results, Tryz.results99, go_sem]; exact ⟨rfl, rfl⟩) rfl ?_
        rw [HF.out]
        exact ⟨_, _, rfl, by (with_reducible repeat (first | exact hbw3 | refine ball ?_ _))⟩
      have hr4 : 4 ≤ (rdR (riRest j r0)).length := by rw [← hdr, List.length_drop, Hl.out]; omega
      have hS0 : riS (riRest j r0) = false := by unfold riS; rw [hs0, Bool.false_or, decide_eq_false_iff_not]; omega
      have hsh' : riSh (j + 1) r0 = false := by rw [st3, hsh, hS0]; rfl
      have hsm' : small ((riMany (j + 1) r0).map Prod.fst) = true := by
       rw [st1, List.map_append]; unfold small at hsm ⊢; rw [List.all_append, hsm]; simp [rdE_size, hk2]
      have hdr4 : L.drop (P + (8 + keyN (riRest j r0)) + 4) = riR (riRest j r0) := by unfold riR; rw [dr_ge hr4, ← hdr, List.drop_drop]
      have hcv : riC (riRest j r0) = beVal ((L.drop (P + (8 + keyN (riRest j r0)))).take 4) := by unfold riC; rw [tk_ge hr4, hdr]
      have hcb := beVal_lt_of (l := (L.drop (P + (8 + keyN (riRest j r0)))).take 4) (n := 4) (by rw [List.length_take]; omega)
      have HST := Lib.hid (And.intro st1 (And.intro st2 (And.intro hsh' (And.intro hsm' hdr4))))
      clear st1 st2 st3 hsh' hsm' hdr hdr4 hsh hsm hok1 hs0 hge hr4 hS0
      obtain ⟨K, hK⟩ : ∃ K, P + (8 + keyN (riRest j r0)) = K := ⟨_, rfl⟩
      unfold RetOne at ON
      rw [hK] at ON HST hPl h4 hcv hcb
      have sl4 : ∀ W, (Instr.slice 9 (.string (str L)) (some (.int .i64 (K : Int))) (some (.int .i64 ((K : Int) + 4))) none).run Tryz.prog W = .ok (.string (str ((L.drop K).take 4))) W := cut_mid (P := Tryz.prog) Tryz.underlying9 L ((L.drop K).take 4) .i64 .i64 K ((K : Int) + 4) (by omega) (by omega) (by rw [Hl.out]; omega) (by congr 1; omega)
      have V4 := Lib.hid fun W => dval_any ((L.drop K).take 4) (by rw [List.length_take]; omega) W
      rw [← hcv] at V4 hcb
      obtain ⟨x, hx⟩ : ∃ x, riC (riRest j r0) = x := ⟨_, rfl⟩
      rw [hx] at V4 hcb HST
      have wx : IntKind.u32.wrap (x : Int) = (x : Int) := by rw [IntKind.wrap_u32]; omega
      have k0 : (K : Int) ≤ 512 := by omega
      have k1 : (K : Int) + 4 ≤ 512 := by omega
      obtain ⟨E, hE⟩ : ∃ E, rdE (riRest j r0) = E := ⟨_, rfl⟩
      rw [hE] at ON HST
      obtain ⟨es, ep, eq⟩ := E
      unfold En.agg at ON
      have HON := Lib.hid ON
      clear ON hE hK hk2 hdrop hx hcv hcb
      simp only at HON
      go_wp2_with fail
      refine HON.out.mono ?_
      rintro e w3 ⟨rfl, hb3⟩
      have hownE3 := (own_below hownE hb3).alloc (.cells #[.string es, .int .u32 ep, .int .u16 eq] 37)
      have hownC3 := (own_below hownC hb3).alloc (.cells #[.string es, .int .u32 ep, .int .u16 eq] 37)
      have hX3 := (hX.below hb3 hX.lt).alloc (.cells #[.string es, .int .u32 ep, .int .u16 eq] 37)
      have hb3' : Below w.heap.size w (w3.alloc (.cells #[.string es, .int .u32 ep, .int .u16 eq] 37)) := ball (bto0 hb hb3) _
      have hsz3 : h + 1 ≤ (w3.alloc (.cells #[.string es, .int .u32 ep, .int .u16 eq] 37)).heap.size := by have := hb3.size; simp; omega
      have d00 : (w3.alloc (.cells #[.string es, .int .u32 ep, .int .u16 eq] 37)).cell? ⟨h, 0, none⟩ = some (.int .u8 3) := hX3.cell 0
      clear hownE hownC hX c00 c01
      have H3 := Lib.hid (And.intro hownE3 (And.intro hX3 (And.intro hb3' (And.intro hsz3 hownC3))))
      clear hownE3 hX3 hb3' hownC3
      go_wp2_with (at_builtin; go_loud (refine wpList_pushX (news := En.cells ⟨es, ep, eq⟩) rfl _ _ 22 rfl (h + 1) 37 i0 _ 3 24 Tryz.underlying22 hi0 hz0 hs0 hy0 rfl (by decide) u8 j _ rfl H3.out.1 rfl (w3.heap.size + 1) rfl (by simp) rfl (cells_oneE _) (by omega) (by omega) H3.out.2.2.2.1 ?_); intro v4 w4 hownE4 hg4; have d04 : w4.cell? ⟨h, 0, none⟩ = some (.int .u8 3) := (H3.out.2.1.below (belowX_grown H3.out.1 (Nat.le_refl _) H3.out.2.2.2.1 hg4 (Below.refl _ _)) (by omega)).cell 0)
      have hk4 := belowX_grown H3.out.1 (Nat.le_refl _) H3.out.2.2.2.1 hg4 (Below.refl _ _)
      have hb4 : Below w.heap.size w w4 := belowX_grown H3.out.1 (by omega) H3.out.2.2.2.1 hg4 H3.out.2.2.1
      have hX4 := H3.out.2.1.below hk4 (by omega)
      have hownC4 := ownX_grown H3.out.1 H3.out.2.2.2.2 (by decide) hg4
      have hsz4 := Nat.le_trans hsz3 hk4.size
      have H4 := Lib.hid (And.intro hownE4 (And.intro hownC4 (And.intro hX4 (And.intro hb4 hsz4))))
      clear hownE4 hownC4 hX4 hb4 hk4 hg4 H3 d00
      refine (V4.out _).mono ?_
      rintro e w5 ⟨rfl, rfl⟩
      go_wp2_with (at_builtin; go_loud (refine wpList_pushX (news := [.int .u32 (x : Int)]) rfl _ _ 73 rfl (h + 1) 30 i1 _ 1 4 Tryz.underlying73 hi1 hz1 hs1 hy1 rfl (by decide) u9 (j + 1) _ rfl H4.out.2.1 rfl _ rfl rfl rfl (by intro u hu; rw [List.mem_singleton] at hu; subst hu; rfl) (by omega) (by omega) H4.out.2.2.2.2 ?_); intro v6 w6 hownC6 hg6)
      have hk6 := belowX_grown H4.out.2.1 (Nat.le_refl _) H4.out.2.2.2.2 hg6 (Below.refl _ _)
      have hb6 : Below w.heap.size w w6 := belowX_grown H4.out.2.1 (by omega) H4.out.2.2.2.2 hg6 H4.out.2.2.2.1
      have hownE6 := ownX_grown H4.out.2.1 H4.out.1 (by decide) hg6
      go_roundw
      case rel =>
       refine ⟨j + 1, K + 4, by omega, by go_num, by go_num, h4, by rw [HST.out.2.1]; exact HST.out.2.2.2.2, HST.out.2.2.1, HST.out.2.2.2.1, ?_, ?_, H4.out.2.2.1.below hk6 (by omega), hb6, Nat.le_trans hsz4 hk6.size⟩
       · rw [HST.out.1, List.map_append]
         show w6.ownsRow _ _ _ _ _ (vE (_ ++ [_]))
         rw [vE_snoc]; exact hownE6
       · rw [HST.out.1, List.map_append, ← List.cons_append]
         show w6.ownsRow _ _ _ _ _ (vN (_ ++ [x]))
         rw [vN_snoc]; exact hownC6
      case measure => simp [intOf]; omega
  · obtain rfl : j = C := by omega
    obtain ⟨R, hR⟩ : ∃ R, riRest j r0 = R := ⟨_, rfl⟩
    rw [hR] at hdrop
    have hM : mayEn ((riMany j r0).map Prod.fst) = riseE ((riMany j r0).map Prod.fst) := by rw [small_mayEn, hsm]; rfl
    have HD := Lib.hid hdrop
    have HF := Lib.hid (And.intro hsh (And.intro hR hM))
    clear hsh hR hM hsm hdrop
    go_wp2_with fail
    go_loop [15] (fun iv => ∃ m : Nat, P ≤ m ∧ m ≤ 512 ∧ iv = .int .i64 (m : Int) ∧ allZ R = allZ (L.drop m)) (fun iv => 512 - (intOf iv).toNat)
    case atStart => exact ⟨P, Nat.le_refl _, hP, rfl, by rw [HD.out]⟩
    case round =>
     obtain ⟨m, hm0, hm1, rfl, hz⟩ := hrel
     have Hz := Lib.hid hz; clear hz
     have m0 : (0 : Int) ≤ (m : Int) := by omega
     by_cases hm : m < 512
     · have m1 : (m : Int) < 512 := by omega
       have g1 : m < (str L).size := by omega
       have hx : L[m]? = some (L[m]'(by rw [Hl.out]; exact hm)) := List.getElem?_eq_getElem _
       have hg := str_get g1 hx
       have hzd := allZ_drop hx
       obtain ⟨x, hxe⟩ : ∃ x, L[m]'(by rw [Hl.out]; exact hm) = x := ⟨_, rfl⟩
       rw [hxe] at hg hzd
       have Hzd := Lib.hid hzd
       clear hx hxe hzd
       by_cases hx0 : x = 0
       · subst hx0
         have e0 : (str L)[m].toNat = 0 := by rw [hg]; rfl
         have hnx : Hid (allZ R = allZ (L.drop (m + 1))) := Lib.hid (by rw [Hz.out, Hzd.out]; rfl)
         clear hg Hz Hzd
         go_wp2
         go_round
         case rel => exact ⟨m + 1, by omega, by omega, by go_num, hnx.out⟩
         case measure => simp [intOf]; omega
       · have hnx : Hid (allZ R = false) := Lib.hid (by rw [Hz.out, Hzd.out]; simp [hx0])
         have hx1 : x.toNat ≠ 0 := fun e => hx0 (UInt8.toNat_inj.1 e)
         have e1 : ((str L)[m].toNat == 0) = false := by rw [hg]; simpa using hx1
         have e2 : (((str L)[m].toNat : Int) == 0) = false := by rw [hg]; simp; omega
         have e3 : ((str L)[m].toNat != 0) = true := by rw [hg]; simpa using hx1
         have e4 : (((str L)[m].toNat : Int) != 0) = true := by rw [hg]; simp; omega
         clear hg Hz Hzd hx0 hx1
         go_wp2
         refine bodyPost_ret (v := .tuple #[.int .i64 (-1), .int .u32 0, _, _]) (by simp [results, Tryz.results99, go_sem]; exact ⟨rfl, rfl⟩) rfl ?_
         rw [HF.out.2.1, hnx.out, Bool.and_false, Bool.false_and]
         exact ⟨_, _, rfl, by (with_reducible repeat (first | exact hb | refine ball ?_ _))⟩
     · obtain rfl : m = 512 := by omega
       have hZ : allZ R = true := by rw [Hz.out, List.drop_eq_nil_of_le (by rw [Hl.out]; exact Nat.le_refl _)]; rfl
       have HZ := Lib.hid hZ
       clear hZ Hz
       obtain ⟨A5, c5, rfl, hc5⟩ := own_form hownE
       have hro := Reads.of_own hownE
       have RI := rriseE_any A5 j c5 ((riMany j r0).map Prod.fst) wr hro (by omega)
       by_cases hri : riseE ((riMany j r0).map Prod.fst) = true
       rotate_left
       · have hri' : riseE ((riMany j r0).map Prod.fst) = false := by simpa using hri
         rw [hri'] at RI
         have HRI := Lib.hid RI
         have Hri := Lib.hid hri'
         clear RI hri hri'
         go_wp2_with fail
         refine HRI.out.mono ?_
         rintro e w3 ⟨rfl, hb3⟩
         have hbw3 := bto0 hb hb3
         go_wp2
         refine bodyPost_ret (v := .tuple #[.int .i64 (-1), .int .u32 0, _, _]) (by simp [results, Tryz.results99, go_sem]; exact ⟨rfl, rfl⟩) rfl ?_
         rw [HF.out.2.2, Hri.out, Bool.and_false]
         exact ⟨_, _, rfl, by (with_reducible repeat (first | exact hbw3 | refine ball ?_ _))⟩
       · rw [hri] at RI
         have HRI := Lib.hid RI
         have Hri := Lib.hid hri
         clear RI hri
         obtain ⟨A6, c6, rfl, hc6⟩ := own_form hownC
         have hrc := Reads.of_own hownC
         go_wp2_with fail
         refine HRI.out.mono ?_
         rintro e w3 ⟨rfl, hb3⟩
         have hX3 := hX.below hb3 hX.lt
         have d00 : w3.cell? ⟨h, 0, none⟩ = some (.int .u8 3) := hX3.cell 0
         have d02 : w3.cell? ⟨h, 2, none⟩ = some (.int .u32 0) := hX3.cell 2
         clear c00 c01
         go_wp2_with fail
         go_quiet (fail)
         go_wp2
         have hbw3 := bto0 hb hb3
         refine bodyPost_ret (v := .tuple #[.int .i64 1, .int .u32 0, .slice A6 (j + 1) c6, .slice A5 j c5]) (by simp [results, Tryz.results99, go_sem]) rfl ?_
         rw [HF.out.1, HF.out.2.1, HZ.out, HF.out.2.2, Hri.out]
         refine ⟨A6, c6, A5, c5, by simp [riMany_len], ?_, ?_, bdr hbw3 _, fun ad e => by have := own_hiZ hownC ad e; omega, fun ad e => by have := own_hiZ hownE ad e; omega⟩
         · rw [List.length_cons, List.length_map, riMany_len]; exact ((hrc.below hb3).more hb3.size)
         · rw [List.length_map, riMany_len]; exact ((hro.below hb3).more hb3.size)
end
end Go.Proofs.YtebobcbaloddaaaGreat
