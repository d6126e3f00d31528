/-
  A path's conditions, the reference's way.
-/
import Derived.Test.YtoamnnonkhgpoaaGreatDoorP11
set_option linter.unusedSimpArgs false
set_option linter.unusedVariables false
namespace Go.Proofs.YtoamnnonkhgpoaaGreatDoor
open Go.RowKit Go.Sort

theorem Tryz.elemI22 : Tryz.prog.elem 27 = 3 := by kernel_rfl
theorem Tryz.sizeI22 (W : World) : (Go.sizeOf 3).run Tryz.prog W = .ok 1 W := by kernel_rfl
theorem Tryz.sliceI22 : Tryz.prog.underlying 27 = some (.slice (Tryz.prog.elem 27)) := by kernel_rfl
theorem cutloI (A : Option Addr) (n c k : Nat) (h1 : k ≤ n) : ∃ A1 c1, (∀ W, (Instr.slice 27 (.slice A n c) (some (.int .i64 (k : Int))) none none).run Tryz.prog W = .ok (.slice A1 (n - k) c1) W) ∧ ∀ (w : World) (B : Nat) (l : List Int), n ≤ c → Reads w B 1 A n (vI64 l) → Reads w B 1 A1 (n - k) (vI64 (l.drop k)) := by
  refine ⟨if c = k then A else A.map (·.add (k * 1)), c - k, fun W => ?_, ?_⟩
  · rw [run_slice_l W 27 A n c Tryz.sliceI22 .i64 (k : Int) (by omega) (by omega), Tryz.elemI22, Tryz.sizeI22]
    simp only [sliced, Result.andThen, Int.toNat_natCast]
  · intro w B l hc hr
    have h := hr.cut h1 hc
    have e : (vI64 l).drop (k * 1) = vI64 (l.drop k) := by unfold vI64; rw [Nat.mul_one, List.map_drop]
    rw [e] at h
    exact h
theorem cuthiI (A : Option Addr) (n c k : Nat) (h1 : k ≤ c) : ∀ W, (Instr.slice 27 (.slice A n c) none (some (.int .i64 (k : Int))) none).run Tryz.prog W = .ok (.slice A k c) W := by
  intro W
  rw [run_slice_h W 27 A n c Tryz.sliceI22 .i64 (k : Int) (by omega) (by omega), Tryz.elemI22, Tryz.sizeI22]
  simp [sliced, Result.andThen, Addr.add]
theorem Reads.takeI {w : World} {B : Nat} {A : Option Addr} {n k : Nat} {l : List Int} (hr : Reads w B 1 A n (vI64 l)) (hk : k ≤ n) : Reads w B 1 A k (vI64 (l.take k)) := by
  have hl : l.length = n := by have := hr.1; rw [vI64_len] at this; omega
  refine ⟨by rw [vI64_len, List.length_take]; omega, fun h => ?_⟩
  obtain ⟨ad, hA, hb, hc⟩ := hr.2 (by omega)
  refine ⟨ad, hA, hb, fun j u hj => hc j u ?_⟩
  have hj' := lt_of_at hj
  have e : vI64 l = vI64 (l.take k) ++ vI64 (l.drop k) := by rw [← vI64_app, List.take_append_drop]
  rw [e, List.getElem?_append_left hj']
  exact hj

/-- Numbers, rising, each once, that are those of a list. -/
def RetCd (w : World) (zs : List Int) (e : Ending) (w' : World) : Prop := ∃ A n c S, e = .returned (.slice A n c) ∧ n ≤ 300 ∧ Reads w' w'.heap.size 1 A n (vI64 S) ∧ Up S ∧ (∀ y, y ∈ S ↔ y ∈ zs) ∧ Below w.heap.size w w'

set_option maxRecDepth 100000 in
set_option maxHeartbeats 16000000 in
theorem rconds22_any (p : Pt) (w : World) (hp : PtIn w w.heap.size p) (hn : p.cn + p.mn ≤ 300) : Calls Tryz.prog 12 #[p.agg] w (RetCd w (p.cs ++ p.mo)) := by
  have hlc : p.cs.length = p.cn := by have := hp.cs.1; rw [vI64_len] at this; omega
  have hlm : p.mo.length = p.mn := by have := hp.mo.1; rw [vI64_len] at this; omega
  have HP := Lib.hid fun (W : World) (hb : Below w.heap.size w W) => hp.below hb
  clear hp
  obtain ⟨k0, ix0, RA0, rn0, rc0, CA0, cn0, cc0, ot0, AA0, an0, ac0, MA0, mn0, mc0, rg0, cs0, al0, mo0⟩ := p
  simp only [Pt.agg] at *
  have hzl : (cs0 ++ mo0).length = cn0 + mn0 := by rw [List.length_append]; omega
  have cI : (cn0 : Int) ≤ 300 := by omega
  have mI : (mn0 : Int) ≤ 300 := by omega
  obtain ⟨i0, hi0, hz0, hs0, hy0⟩ := int_info8 Tryz.infoI22
  have hb0 : Below w.heap.size w (((w.alloc (.cells #[.int .u8 k0, .int .i64 ix0, .slice RA0 rn0 rc0, .slice CA0 cn0 cc0, .int .i64 ot0, .slice AA0 an0 ac0, .slice MA0 mn0 mc0] 29)).alloc (.cells #[] 3)).alloc (.cells #[] 3)) := ball (ball (ball (Below.refl _ _) _) _) _
  have own0 : (((w.alloc (.cells #[.int .u8 k0, .int .i64 ix0, .slice RA0 rn0 rc0, .slice CA0 cn0 cc0, .int .i64 ot0, .slice AA0 an0 ac0, .slice MA0 mn0 mc0] 29)).alloc (.cells #[] 3)).alloc (.cells #[] 3)).ownsRow (w.heap.size + 1 + 1) 3 1 (.slice (some ⟨w.heap.size + 1 + 1, 0, none⟩) 0 0) 0 [] := by
    have := own_empty ((w.alloc (.cells #[.int .u8 k0, .int .i64 ix0, .slice RA0 rn0 rc0, .slice CA0 cn0 cc0, .int .i64 ot0, .slice AA0 an0 ac0, .slice MA0 mn0 mc0] 29)).alloc (.cells #[] 3)) 3 1 (g := w.heap.size + 1 + 1) (by simp)
    simpa using this
  have hX : Blk (((w.alloc (.cells #[.int .u8 k0, .int .i64 ix0, .slice RA0 rn0 rc0, .slice CA0 cn0 cc0, .int .i64 ot0, .slice AA0 an0 ac0, .slice MA0 mn0 mc0] 29)).alloc (.cells #[] 3)).alloc (.cells #[] 3)) w.heap.size 29 #[.int .u8 k0, .int .i64 ix0, .slice RA0 rn0 rc0, .slice CA0 cn0 cc0, .int .i64 ot0, .slice AA0 an0 ac0, .slice MA0 mn0 mc0] := ((Blk.new _ _ _).alloc _).alloc _
  have hz3 : (((w.alloc (.cells #[.int .u8 k0, .int .i64 ix0, .slice RA0 rn0 rc0, .slice CA0 cn0 cc0, .int .i64 ot0, .slice AA0 an0 ac0, .slice MA0 mn0 mc0] 29)).alloc (.cells #[] 3)).alloc (.cells #[] 3)).heap.size = w.heap.size + 3 := by simp
  have r1 := (HP.out _ hb0).cs
  have hbz : w.heap.size + 1 + 1 ≤ (((w.alloc (.cells #[.int .u8 k0, .int .i64 ix0, .slice RA0 rn0 rc0, .slice CA0 cn0 cc0, .int .i64 ot0, .slice AA0 an0 ac0, .slice MA0 mn0 mc0] 29)).alloc (.cells #[] 3)).alloc (.cells #[] 3)).heap.size := by rw [hz3]; omega
  have HZ := Lib.hid (And.intro hzl (And.intro hlc (And.intro hlm hn)))
  have HH := Lib.hid (And.intro hb0 (And.intro hX hz3))
  clear hzl hlc hlm hX hz3 hb0
  go_enter Tryz.func12, Tryz.ntmps12
  go_wp2_with (first
    | (at_builtin; refine wpList_append_any _ rfl (.tmp 11) (.tmp 13) 27 rfl (w.heap.size + 1 + 1) 3 i0 _ 1 8 Tryz.underlying27 hi0 hz0 hs0 hy0 rfl (by decide) _ 0 [] rfl own0 _ CA0 cn0 cc0 (vI64 cs0) rfl r1 (vI64_oneCell _) (by unfold maxLen; omega) (by omega) hbz ?_; intro v4 w4 own4 hg4 _; simp only [Nat.zero_add, List.nil_append] at own4; obtain ⟨A4, c4, rfl, hc4⟩ := own_form own4; have hb4 : Below w.heap.size w w4 := HH.out.1.grown hg4 (by rw [HH.out.2.2]; omega) (fun g hgg => by (have := (own0.lt g hgg).1; omega)); have hX4 := HH.out.2.1.grown hg4 (fun e => by (have := (own0.lt _ e.symm).1; omega)); have x6 : w4.cell? ⟨w.heap.size, 6, none⟩ = some (.slice MA0 mn0 mc0) := hX4.cell 6; have r4 := (HP.out _ hb4).mo; have hz4 : w.heap.size + 1 + 1 ≤ w4.heap.size := (by have := hg4.size; omega))
    | (at_builtin; refine wpList_append_any _ rfl (.tmp 15) (.tmp 17) 27 rfl (w.heap.size + 1 + 1) 3 i0 _ 1 8 Tryz.underlying27 hi0 hz0 hs0 hy0 rfl (by decide) (.slice A4 cn0 c4) cn0 (vI64 cs0) rfl own4 _ MA0 mn0 mc0 (vI64 mo0) rfl r4 (vI64_oneCell _) (by unfold maxLen; omega) (by omega) hz4 ?_; intro v5 w5 own5 hg5 _; rw [← vI64_app] at own5; obtain ⟨A5, c5, rfl, hc5⟩ := own_form own5; have hb5 : Below w.heap.size w w5 := hb4.grown hg5 (by omega) (fun g hgg => by (have := (own4.lt g hgg).1; omega)); have r5 := Reads.of_own own5)
    | fail)
  clear own0 own4 own5 hg4 hg5 x6 hX4 r1 r4 hb4 HH hbz hz4 HP
  obtain ⟨zs, hzs⟩ : ∃ zs, cs0 ++ mo0 = zs := ⟨_, rfl⟩
  obtain ⟨N, hN⟩ : ∃ N, cn0 + mn0 = N := ⟨_, rfl⟩
  rw [hzs] at r5 HZ
  have HZS := Lib.hid hzs
  clear hzs
  have hup0 : Up [] := List.Pairwise.nil
  have hN300 : cn0 + mn0 ≤ 300 := hn
  have hZl : zs.length = cn0 + mn0 := HZ.out.1
  have HZl := Lib.hid hZl
  clear hN hZl HZ
  go_loopw [3, 21] (fun u v wr => ∃ (i n c : Nat) (A : Option Addr) (S : List Int), u = .slice A n c ∧ n ≤ c ∧ c ≤ maxLen ∧ v = .int .i64 i ∧ i ≤ cn0 + mn0 ∧ n ≤ i ∧ Reads wr wr.heap.size 1 A n (vI64 S) ∧ Up S ∧ (∀ y, y ∈ S ↔ y ∈ zs.take i) ∧ Below w5.heap.size w5 wr) (fun _ v _ => cn0 + mn0 - (intOf v).toNat)
  case atStart => exact ⟨0, 0, 0, _, [], rfl, Nat.le_refl _, Nat.zero_le _, rfl, Nat.zero_le _, Nat.le_refl _, ⟨rfl, fun h => absurd h (by omega)⟩, hup0, by simp, Below.refl _ _⟩
  case round =>
    obtain ⟨i, n, c, A, S, rfl, hnc, hcm, rfl, hi, hni, hrS, hup, hmem, hb⟩ := hrel
    have q0 : (0 : Int) ≤ (i : Int) := by omega
    have HS := Lib.hid (And.intro hrS (And.intro hup (And.intro hmem hb)))
    have hSl : S.length = n := by have := hrS.1; rw [vI64_len] at this; omega
    have HSl := Lib.hid hSl
    have nI : (n : Int) ≤ 300 := by omega
    unfold maxLen at hcm
    clear hrS hup hmem hSl
    by_cases hlt : i < cn0 + mn0
    · have q1 : (i : Int) < (cn0 : Int) + (mn0 : Int) := by omega
      obtain ⟨ad, x, rfl, hab, hx, dx⟩ := (r5.below hb).i64_ hlt
      have HX := Lib.hid hx
      clear hx hb
      go_wp2_with fail
      obtain ⟨wo, hwo⟩ : ∃ wo : World, wo = wr := ⟨_, rfl⟩
      rw [← hwo] at HS dx ⊢
      clear hwo
      have hdx : ad.block < wo.heap.size := by have := HS.out.2.2.2.size; omega
      go_loopw [6, 7] (fun u v wr => ∃ (k : Nat) (sm : Bool), u = .int .i64 k ∧ v = .bool sm ∧ k ≤ n ∧ (sm = true ↔ x ∈ S.take k) ∧ (∀ j, j < k → ∀ a, S[j]? = some a → a ≤ x) ∧ Below wo.heap.size wo wr) (fun u _ _ => n - (intOf u).toNat)
      case atStart => exact ⟨0, false, rfl, rfl, Nat.zero_le _, by simp, fun j hj => by omega, Below.refl _ _⟩
      case round =>
        obtain ⟨k, sm, rfl, rfl, hkn, hsm, hlo, hbi⟩ := hrel
        have k0' : (0 : Int) ≤ (k : Int) := by omega
        have HDX := Lib.hid dx
        have dxi := (hbi.cell (p := ad.add i) (by rw [block_of_add]; exact hdx)).trans dx
        have HI := Lib.hid (And.intro hsm (And.intro hlo hbi))
        clear hsm hlo dx
        by_cases hk : k < n
        · have k1 : (k : Int) < (n : Int) := by omega
          obtain ⟨ad2, y, rfl, hab2, hy, dy⟩ := (HS.out.1.below hbi).i64_ hk
          have HY := Lib.hid hy
          clear hy hbi
          by_cases hyx : y ≤ x
          · have e1 : decide (y ≤ x) = true := decide_eq_true hyx
            have hlo' : ∀ j, j < k + 1 → ∀ a, S[j]? = some a → a ≤ x := fun j hj a ha => by
              by_cases hjk : j < k
              · exact HI.out.2.1 j hjk a ha
              · obtain rfl : j = k := by omega
                rw [HY.out] at ha
                injection ha with ha
                omega
            have HLO := Lib.hid hlo'
            clear hlo'
            have hst : S.take (k + 1) = S.take k ++ [y] := by rw [List.take_add_one, HY.out]; rfl
            have HST := Lib.hid hst
            clear hst
            cases sm
            · by_cases hxy : y = x
              · have e2 : (y == x) = true := by simpa using hxy
                have HXY := Lib.hid hxy
                clear hxy
                go_wp2
                go_quiet (fail)
                go_wp2
                go_quiet (fail)
                go_wp2
                refine ⟨⟨k + 1, true, by go_num, rfl, by omega, ⟨fun _ => by rw [HST.out, HXY.out]; simp, fun _ => rfl⟩, HLO.out, (by with_reducible repeat (first | exact HI.out.2.2 | refine bdr ?_ _ | refine Below.drew ?_))⟩, by simp [intOf]; omega⟩
              · have e2 : (y == x) = false := by simpa using hxy
                have HXY := Lib.hid hxy
                clear hxy
                go_wp2
                go_quiet (fail)
                go_wp2
                go_quiet (fail)
                go_wp2
                refine ⟨⟨k + 1, false, by go_num, rfl, by omega, ⟨fun h => (by cases h), fun h => ?_⟩, HLO.out, (by with_reducible repeat (first | exact HI.out.2.2 | refine bdr ?_ _ | refine Below.drew ?_))⟩, by simp [intOf]; omega⟩
                rw [HST.out, List.mem_append, List.mem_singleton] at h
                rcases h with h | h
                · exact HI.out.1.2 h
                · exact absurd h.symm HXY.out
            · go_wp2
              go_quiet (fail)
              go_wp2
              go_quiet (fail)
              go_wp2
              refine ⟨⟨k + 1, true, by go_num, rfl, by omega, ⟨fun _ => by rw [HST.out]; exact List.mem_append_left _ (HI.out.1.1 (by first | trivial | rfl)), fun _ => rfl⟩, HLO.out, (by with_reducible repeat (first | exact HI.out.2.2 | refine bdr ?_ _ | refine Below.drew ?_))⟩, by simp [intOf]; omega⟩
          · have e1 : decide (y ≤ x) = false := decide_eq_false hyx
            have hhi : ∀ a, S[k]? = some a → x < a := fun a ha => by rw [HY.out] at ha; injection ha with ha; omega
            have HHI := Lib.hid hhi
            clear hhi
            cases sm
            · have hno : x ∉ S.take k := fun h => by (have := HI.out.1.2 h; cases this)
              have hput := up_put HS.out.2.1 (by rw [HSl.out]; exact hkn) HI.out.2.1 HHI.out hno
              have HPT := Lib.hid hput
              clear hput hno
              obtain ⟨A1, c1, hcut, hlo1⟩ := cutloI (some ad2) n c k hkn
              obtain ⟨m, hm⟩ : ∃ m, n - k = m := ⟨_, rfl⟩
              rw [hm] at hcut hlo1
              have hhi1 := cuthiI (some ad2) n c k (by omega)
              have HL1 := Lib.hid hlo1
              clear hlo1
              have hE : ∀ nq, ((wr.alloc (.cells #[] 3)).drewN nq).ownsRow wr.heap.size 3 1 (.slice (some ⟨wr.heap.size, 0, none⟩) 0 0) 0 [] := fun nq => own_empty wr 3 1 (g := wr.heap.size) rfl
              have HE := Lib.hid hE
              clear hE
              have H1 : ∀ u ∈ [Value.int .i64 x], u.oneCell' = true := by simp [Value.oneCell']
              have hzr := HI.out.2.2.size
              have mk : m ≤ 300 := by omega
              have kk : k ≤ 300 := by omega
              have mk1 : k + 1 + m ≤ 301 := by omega
              go_wp2
              go_quiet (fail)
              go_wp2_with (first
                | (at_builtin; refine wpList_append_any _ rfl (.tmp 56) (.tmp 59) 27 rfl wr.heap.size 3 i0 _ 1 8 Tryz.underlying27 hi0 hz0 hs0 hy0 rfl (by decide) _ 0 [] rfl (HE.out _) _ (some ad2) k c (vI64 (S.take k)) rfl (Reads.takeI (HS.out.1.below (bdr (ball HI.out.2.2 _) _)) hkn) (vI64_oneCell _) (by unfold maxLen; omega) (by omega) (by simp) ?_; intro v7 w7 own7 hg7 _; simp only [Nat.zero_add, List.nil_append] at own7; obtain ⟨A7, c7, rfl, hc7⟩ := own_form own7; have hb7 : Below wo.heap.size wo w7 := (bdr (ball HI.out.2.2 _) _).grown hg7 (by simp; omega) (fun g hgg => by (have := ((HE.out 0).lt g hgg).1; omega)); have d7 : w7.cell? (ad.add i) = some (.int .i64 x) := (hb7.cell (p := ad.add i) (by rw [block_of_add]; exact hdx)).trans HDX.out; have hbr7 : Below wr.heap.size wr w7 := (bdr (ball (Below.refl _ _) _) _).grown hg7 (by simp) (fun g hgg => ((HE.out 0).lt g hgg).1); have hz7 := hbr7.size)
                | (at_builtin; refine wpList_push rfl _ _ 27 rfl wr.heap.size 3 i0 (.int .i64 0) 1 8 Tryz.underlying27 hi0 hz0 hs0 hy0 rfl (by decide) (.slice A7 k c7) k _ rfl own7 rfl rfl rfl H1 (by omega) (by omega) hz7 ?_; intro v8 w8 own8 hbb8; obtain ⟨A8, c8, rfl, hc8⟩ := own_form own8; have hb8 := hbb8 _ _ hzr hb7; have hz8 := (hbb8 wr.heap.size wr (Nat.le_refl _) hbr7).size; have r8 := HL1.out w8 _ S hnc (HS.out.1.below hb8))
                | (at_builtin; refine wpList_append_any _ rfl (.tmp 68) (.tmp 71) 27 rfl wr.heap.size 3 i0 _ 1 8 Tryz.underlying27 hi0 hz0 hs0 hy0 rfl (by decide) (.slice A8 (k + 1) c8) (k + 1) _ rfl own8 _ A1 m c1 (vI64 (S.drop k)) rfl r8 (vI64_oneCell _) (by unfold maxLen; omega) (by omega) hz8 ?_; intro v9 w9 own9 hg9 _; obtain ⟨A9, c9, rfl, hc9, hm9, _, _⟩ := own_cap22 own9; have hb9 : Below wo.heap.size wo w9 := hb8.grown hg9 (by omega) (fun g hgg => by (have := (own8.lt g hgg).1; omega)))
                | fail)
              have e9 : vI64 (S.take k) ++ [Value.int .i64 x] ++ vI64 (S.drop k) = vI64 (S.take k ++ [x] ++ S.drop k) := by rw [vI64_app, vI64_app]; rfl
              rw [e9] at own9
              refine ⟨⟨i + 1, k + 1 + m, c9, A9, S.take k ++ [x] ++ S.drop k, rfl, hc9, hm9, by go_num, by omega, by omega, Reads.of_own own9, HPT.out.1, ?_, bto0 HS.out.2.2.2 hb9⟩, by simp [intOf]; omega⟩
              intro y'
              rw [HPT.out.2, HS.out.2.2.1, List.take_add_one, HX.out]
              simp only [List.mem_append, Option.toList_some, List.mem_singleton]
              exact Or.comm
            · have hin : x ∈ S := List.mem_of_mem_take (HI.out.1.1 (by first | trivial | rfl))
              have HIN := Lib.hid hin
              clear hin
              go_wp2
              go_quiet (fail)
              go_wp2
              refine ⟨⟨i + 1, n, c, (some ad2), S, rfl, hnc, by unfold maxLen; omega, by go_num, by omega, by omega, (HS.out.1.below (bdr HI.out.2.2 _)).more (bdr HI.out.2.2 _).size, HS.out.2.1, ?_, bto0 HS.out.2.2.2 (bdr HI.out.2.2 _)⟩, by simp [intOf]; omega⟩
              intro y'
              rw [List.take_add_one, HX.out, List.mem_append, Option.toList_some, List.mem_singleton, ← HS.out.2.2.1]
              exact ⟨.inl, fun h => h.elim id fun h => h ▸ HIN.out⟩
        · have k1 : ¬ (k : Int) < (n : Int) := by omega
          have hhi : ∀ a, S[k]? = some a → x < a := fun a ha => by rw [List.getElem?_eq_none (by rw [HSl.out]; omega)] at ha; cases ha
          have HHI := Lib.hid hhi
          clear hhi
          cases sm
          · have hno : x ∉ S.take k := fun h => by (have := HI.out.1.2 h; cases this)
            have hput := up_put HS.out.2.1 (by rw [HSl.out]; exact hkn) HI.out.2.1 HHI.out hno
            have HPT := Lib.hid hput
            clear hput hno
            obtain ⟨A1, c1, hcut, hlo1⟩ := cutloI A n c k hkn
            obtain ⟨m, hm⟩ : ∃ m, n - k = m := ⟨_, rfl⟩
            rw [hm] at hcut hlo1
            have hhi1 := cuthiI A n c k (by omega)
            have HL1 := Lib.hid hlo1
            clear hlo1
            have hE : ∀ nq, ((wr.alloc (.cells #[] 3)).drewN nq).ownsRow wr.heap.size 3 1 (.slice (some ⟨wr.heap.size, 0, none⟩) 0 0) 0 [] := fun nq => own_empty wr 3 1 (g := wr.heap.size) rfl
            have HE := Lib.hid hE
            clear hE
            have H1 : ∀ u ∈ [Value.int .i64 x], u.oneCell' = true := by simp [Value.oneCell']
            have hzr := HI.out.2.2.size
            have mk : m ≤ 300 := by omega
            have kk : k ≤ 300 := by omega
            have mk1 : k + 1 + m ≤ 301 := by omega
            go_wp2
            go_quiet (fail)
            go_wp2_with (first
              | (at_builtin; refine wpList_append_any _ rfl (.tmp 56) (.tmp 59) 27 rfl wr.heap.size 3 i0 _ 1 8 Tryz.underlying27 hi0 hz0 hs0 hy0 rfl (by decide) _ 0 [] rfl (HE.out _) _ A k c (vI64 (S.take k)) rfl (Reads.takeI (HS.out.1.below (bdr (ball HI.out.2.2 _) _)) hkn) (vI64_oneCell _) (by unfold maxLen; omega) (by omega) (by simp) ?_; intro v7 w7 own7 hg7 _; simp only [Nat.zero_add, List.nil_append] at own7; obtain ⟨A7, c7, rfl, hc7⟩ := own_form own7; have hb7 : Below wo.heap.size wo w7 := (bdr (ball HI.out.2.2 _) _).grown hg7 (by simp; omega) (fun g hgg => by (have := ((HE.out 0).lt g hgg).1; omega)); have d7 : w7.cell? (ad.add i) = some (.int .i64 x) := (hb7.cell (p := ad.add i) (by rw [block_of_add]; exact hdx)).trans HDX.out; have hbr7 : Below wr.heap.size wr w7 := (bdr (ball (Below.refl _ _) _) _).grown hg7 (by simp) (fun g hgg => ((HE.out 0).lt g hgg).1); have hz7 := hbr7.size)
              | (at_builtin; refine wpList_push rfl _ _ 27 rfl wr.heap.size 3 i0 (.int .i64 0) 1 8 Tryz.underlying27 hi0 hz0 hs0 hy0 rfl (by decide) (.slice A7 k c7) k _ rfl own7 rfl rfl rfl H1 (by omega) (by omega) hz7 ?_; intro v8 w8 own8 hbb8; obtain ⟨A8, c8, rfl, hc8⟩ := own_form own8; have hb8 := hbb8 _ _ hzr hb7; have hz8 := (hbb8 wr.heap.size wr (Nat.le_refl _) hbr7).size; have r8 := HL1.out w8 _ S hnc (HS.out.1.below hb8))
              | (at_builtin; refine wpList_append_any _ rfl (.tmp 68) (.tmp 71) 27 rfl wr.heap.size 3 i0 _ 1 8 Tryz.underlying27 hi0 hz0 hs0 hy0 rfl (by decide) (.slice A8 (k + 1) c8) (k + 1) _ rfl own8 _ A1 m c1 (vI64 (S.drop k)) rfl r8 (vI64_oneCell _) (by unfold maxLen; omega) (by omega) hz8 ?_; intro v9 w9 own9 hg9 _; obtain ⟨A9, c9, rfl, hc9, hm9, _, _⟩ := own_cap22 own9; have hb9 : Below wo.heap.size wo w9 := hb8.grown hg9 (by omega) (fun g hgg => by (have := (own8.lt g hgg).1; omega)))
              | fail)
            have e9 : vI64 (S.take k) ++ [Value.int .i64 x] ++ vI64 (S.drop k) = vI64 (S.take k ++ [x] ++ S.drop k) := by rw [vI64_app, vI64_app]; rfl
            rw [e9] at own9
            refine ⟨⟨i + 1, k + 1 + m, c9, A9, S.take k ++ [x] ++ S.drop k, rfl, hc9, hm9, by go_num, by omega, by omega, Reads.of_own own9, HPT.out.1, ?_, bto0 HS.out.2.2.2 hb9⟩, by simp [intOf]; omega⟩
            intro y'
            rw [HPT.out.2, HS.out.2.2.1, List.take_add_one, HX.out]
            simp only [List.mem_append, Option.toList_some, List.mem_singleton]
            exact Or.comm
          · have hin : x ∈ S := List.mem_of_mem_take (HI.out.1.1 (by first | trivial | rfl))
            have HIN := Lib.hid hin
            clear hin
            go_wp2
            go_quiet (fail)
            go_wp2
            refine ⟨⟨i + 1, n, c, A, S, rfl, hnc, by unfold maxLen; omega, by go_num, by omega, by omega, (HS.out.1.below (bdr HI.out.2.2 _)).more (bdr HI.out.2.2 _).size, HS.out.2.1, ?_, bto0 HS.out.2.2.2 (bdr HI.out.2.2 _)⟩, by simp [intOf]; omega⟩
            intro y'
            rw [List.take_add_one, HX.out, List.mem_append, Option.toList_some, List.mem_singleton, ← HS.out.2.2.1]
            exact ⟨.inl, fun h => h.elim id fun h => h ▸ HIN.out⟩
    · obtain rfl : i = cn0 + mn0 := by omega
      have q1 : ¬ ((cn0 : Int) + (mn0 : Int) < (cn0 : Int) + (mn0 : Int)) := by omega
      go_wp2
      go_ret
      refine ⟨A, n, c, S, rfl, by omega, HS.out.1, HS.out.2.1, ?_, hb5.trans (HS.out.2.2.2.mono hb5.size)⟩
      intro y'
      rw [HS.out.2.2.1, List.take_of_length_le (by rw [HZl.out]; exact Nat.le_refl _), HZS.out]
end Go.Proofs.YtoamnnonkhgpoaaGreatDoor
