/-
  Several texts in one: Ja Jv.
-/
import Derived.Test.YtflolnilagogpaaMgp
import Derived.Deep.RegionHeldLaw
/-
  The reader of a book's writing: an index.
-/
namespace Go.Proofs.Ytflolnilagogpaa
section
set_option linter.unusedSimpArgs false
set_option linter.unusedVariables false
open Go.RowKit

theorem kept_low {w w' : World} {base base2 n n2 size size2 : Nat} {e e2 : TypeId} {v v2 : Value} {xs xs2 : List Value} (h : w.ownsRow base e size v n xs) (hg : w.grownBy w' v2.ownBlock) (h2 : w.ownsRow base2 e2 size2 v2 n2 xs2) (hk : ∀ kk, v.ownBlock = some kk → kk < base2) : w'.ownsRow base e size v n xs := by
  refine h.kept hg ?_
  rcases Option.eq_none_or_eq_some v.ownBlock with h1 | ⟨kk, h1⟩
  · exact .inl h1
  · refine .inr fun e' => ?_
    rw [h1] at e'
    have h3 := (h2.lt kk e'.symm).1
    have h4 := hk kk h1
    omega
theorem own_addr {w : World} {base n c size : Nat} {e : TypeId} {A : Option Addr} {xs : List Value} (h : w.ownsRow base e size (.slice A n c) n xs) : ∀ ad, A = some ad → base ≤ ad.block := by
  rintro ad rfl
  exact (h.lt ad.block rfl).1
theorem own_cap {w : World} {base n c size : Nat} {e : TypeId} {A : Option Addr} {xs : List Value} (h : w.ownsRow base e size (.slice A n c) n xs) : c ≤ maxLen := by
  rcases h.2 with ⟨h1, _⟩ | ⟨g, cap, cs, h1, _, _, _, h2, _⟩
  · injection h1 with _ _ h3
    rw [h3]
    simp
  · injection h1 with _ _ h3
    rw [h3]
    exact h2
theorem ix_end {W : World} {R : Nat} {tm : Array Value} {Q : Ending → World → Prop} {nm : ByteArray} {tb : Int} {A1 : Option Addr} {n1 c1 : Nat} {ro lv hi : Int} {A2 : Option Addr} {n2 c2 : Nat} (hR : Blk W R 49 #[.string nm, .int .i64 tb, .slice A1 n1 c1, .int .u32 ro, .int .i64 lv, .int .i64 hi, .slice A2 n2 c2])
    (h2 : tm[2]? = some (.pointer (some ⟨R, 0, none⟩))) (h : Q (.returned (.agg #[.string nm, .int .i64 tb, .slice A1 n1 c1, .int .u32 ro, .int .i64 lv, .int .i64 hi, .slice A2 n2 c2])) W) :
    bodyPost Try.prog Try.f27 Q Exit.ret { tmps := tm, defers := [] } W := by
  have q0 : W.cell? ⟨R, 0, none⟩ = _ := hR.cell 0
  have q1 : W.cell? ⟨R, 1, none⟩ = _ := hR.cell 1
  have q2 : W.cell? ⟨R, 2, none⟩ = _ := hR.cell 2
  have q3 : W.cell? ⟨R, 3, none⟩ = _ := hR.cell 3
  have q4 : W.cell? ⟨R, 4, none⟩ = _ := hR.cell 4
  have q5 : W.cell? ⟨R, 5, none⟩ = _ := hR.cell 5
  have q6 : W.cell? ⟨R, 6, none⟩ = _ := hR.cell 6
  exact bodyPost_ret (v := .agg #[.string nm, .int .i64 tb, .slice A1 n1 c1, .int .u32 ro, .int .i64 lv, .int .i64 hi, .slice A2 n2 c2]) (by simp [results, Try.results27, go_sem, h2, q0, q1, q2, q3, q4, q5, q6]) rfl h
theorem step_go {P : Program} {w : World} {ops : Array Oper} {o : Oper} {a : Act} {K : Act → World → Prop} {Q : Exit → Act → World → Prop} {E : Prop} (hgd : o.guard = none) (h : Oper.wp P o a w K Q) : if Region.wanted o (yielded ops a.tmps) = true then Oper.wp P o a w K Q else E := by
  have hw : Region.wanted o (yielded ops a.tmps) = true := by simp [Region.wanted, hgd]
  rw [if_pos hw]
  exact h
theorem but_drew {a b : World} {g : Nat} (h : a.grownBy b (some g)) : a.grownBy b.drew (some g) := ⟨h.os, h.tape, h.output, h.size, h.block⟩
theorem but_alloc_ {a b : World} {g : Nat} (h : a.grownBy b (some g)) (o : Obj) : a.grownBy (b.alloc o) (some g) := but_trans h (but_alloc b g o)
theorem Rd.alloc {w : World} {g B : Nat} {r : List UInt8} {sh : Bool} (h : Rd w g B r sh) (o : Obj) : Rd (w.alloc o) g B r sh := by
  obtain ⟨A, m, c, h1, h2, h3, h4⟩ := h
  exact ⟨A, m, c, h1.alloc o, h2.alloc (by have := h1.lt; omega) o, h3, h4⟩
theorem Rd.drew {w : World} {g B : Nat} {r : List UInt8} {sh : Bool} (h : Rd w g B r sh) : Rd w.drew g B r sh := h
theorem Rd.lt {w : World} {g B : Nat} {r : List UInt8} {sh : Bool} (h : Rd w g B r sh) : g < w.heap.size := by
  obtain ⟨A, m, c, h1, h2, h3, h4⟩ := h
  exact h1.lt
theorem vI64_snoc (l : List Int) (z : Int) : vI64 (l ++ [z]) = vI64 l ++ [.int .i64 z] := by simp [vI64]
/-- What the reader answers: an index of new memory. -/
def RetIx (w : World) (g B : Nat) (r : List UInt8) (sh : Bool) (e : Ending) (w' : World) : Prop :=
  ∃ (x : Ix) (r' : List UInt8) (sh' : Bool), e = .returned x.agg ∧ IxIn w' w'.heap.size x ∧ (∀ ad, x.A = some ad → w.heap.size ≤ ad.block) ∧ (∀ ad, x.B = some ad → w.heap.size ≤ ad.block) ∧ Rd w' g B r' sh' ∧ Rel gIdx r sh x.px r' sh' ∧ w.grownBy w' (some g)
def RetC (w : World) (g B : Nat) (r : List UInt8) (sh : Bool) (e : Ending) (w' : World) : Prop :=
  ∃ (b : UInt8) (r' : List UInt8) (sh' : Bool), e = .returned (.int .i64 (b.toNat : Int)) ∧ Rd w' g B r' sh' ∧ Rel gOne r sh b.toNat r' sh' ∧ w.grownBy w' (some g)
theorem count_rel (g B : Nat) (r : List UInt8) (sh : Bool) (w : World) (h : Rd w g B r sh) : Calls Try.prog 25 #[.pointer (some ⟨g, 0, none⟩)] w (RetC w g B r sh) :=
  (count_any g B r sh w h).mono fun e w' ⟨b, hb, he, hr, hw⟩ => ⟨b, _, _, he, hr, rel_one hb, hw⟩
def RetU (w : World) (g B : Nat) (r : List UInt8) (sh : Bool) (e : Ending) (w' : World) : Prop :=
  ∃ (U : Nat) (r' : List UInt8) (sh' : Bool), e = .returned (.int .i64 (U : Int)) ∧ U < 4294967296 ∧ Rd w' g B r' sh' ∧ Rel gFour r sh U r' sh' ∧ w.grownBy w' (some g)
theorem num_rel (g B : Nat) (r : List UInt8) (sh : Bool) (w : World) (h : Rd w g B r sh) : Calls Try.prog 48 #[.pointer (some ⟨g, 0, none⟩)] w (RetU w g B r sh) :=
  (rnum_any g B r sh w h).mono fun e w' ⟨he, hr, hw⟩ => ⟨_, _, _, he, by have := beVal_lt (tk r 4); rw [tk_len] at this; exact this, hr, rel_four r sh, hw⟩
def RetS (w : World) (g B : Nat) (r : List UInt8) (sh : Bool) (e : Ending) (w' : World) : Prop :=
  ∃ (s : ByteArray) (r' : List UInt8) (sh' : Bool), e = .returned (.string s) ∧ s.size ≤ 255 ∧ Rd w' g B r' sh' ∧ Rel gText r sh s.data.toList r' sh' ∧ w.grownBy w' (some g)
theorem text_rel (g B : Nat) (r : List UInt8) (sh : Bool) (w : World) (h : Rd w g B r sh) : Calls Try.prog 47 #[.pointer (some ⟨g, 0, none⟩)] w (RetS w g B r sh) :=
  (text2_any g B r sh w h).mono fun e w' ⟨b, hb, he, hr, hw⟩ => ⟨_, _, _, he, by rw [str_size, tk_len]; have := b.toNat_lt; omega, hr, by rw [str_data]; exact rel_text hb, hw⟩
set_option maxRecDepth 100000 in
set_option maxHeartbeats 8000000 in
theorem rindex2_any (g B : Nat) (r : List UInt8) (sh : Bool) (w : World) (h : Rd w g B r sh) :
    Calls Try.prog 27 #[.pointer (some ⟨g, 0, none⟩)] w (RetIx w g B r sh) := by
  have hgl := h.lt
  have T := Lib.hid (text_rel g B r sh (w.alloc (.cells #[.string ⟨#[]⟩, .int .i64 0, .slice none 0 0, .int .u32 0, .int .i64 0, .int .i64 0, .slice none 0 0] 49)) (h.alloc _))
  have HW := Lib.hid (but_alloc w g (.cells #[.string ⟨#[]⟩, .int .i64 0, .slice none 0 0, .int .u32 0, .int .i64 0, .int .i64 0, .slice none 0 0] 49))
  have HR := Lib.hid (Blk.new w 49 #[.string ⟨#[]⟩, .int .i64 0, .slice none 0 0, .int .u32 0, .int .i64 0, .int .i64 0, .slice none 0 0])
  obtain ⟨i0, hi0, hz0, hs0, hy0⟩ := int_info8 Try.infoI
  clear h
  go_enter Try.func27, Try.ntmps27
  go_wp2_with fail
  refine T.out.mono ?_
  rintro e w1 ⟨nm, r1, s1, rfl, hnm, hrd1, hl1, hbt1⟩
  have C1 := Lib.hid (count_rel g B _ _ w1 hrd1)
  have B1 := HR.out.grown hbt1 (by simp; omega)
  have H1 := Lib.hid (And.intro hl1 (And.intro (but_trans HW.out hbt1) B1))
  clear hrd1 hl1 hbt1 B1 T
  go_wp2_with fail
  refine C1.out.mono ?_
  rintro e w2 ⟨b2, r2, s2, rfl, hrd2, hl2, hbt2⟩
  have b20 : (0 : Int) ≤ (b2.toNat : Int) := by omega
  have b21 : (b2.toNat : Int) ≤ 255 := by have := b2.toNat_lt; omega
  have B2 := H1.out.2.2.grown hbt2 (by simp; omega)
  have C2 := Lib.hid (count_rel g B _ _ (w2.alloc (.cells #[.string nm, .int .i64 (b2.toNat : Int), .slice none 0 0, .int .u32 0, .int .i64 0, .int .i64 0, .slice none 0 0] 49)) (hrd2.alloc _))
  have hz2 := B2.lt
  have H2 := Lib.hid (And.intro hl2 (And.intro (but_trans H1.out.2.1 hbt2) B2))
  clear hrd2 hl2 hbt2 B2 C1
  go_wp2_with fail
  refine C2.out.mono ?_
  rintro e w3 ⟨b3, r3, s3, rfl, hrd3, hl3, hbt3⟩
  have b30 : (0 : Int) ≤ (b3.toNat : Int) := by omega
  have b31 : (b3.toNat : Int) ≤ 255 := by have := b3.toNat_lt; omega
  have hg2 : g < w2.heap.size := by omega
  have B3 := (H2.out.2.2.alloc (.cells #[.string nm, .int .i64 (b2.toNat : Int), .slice none 0 0, .int .u32 0, .int .i64 0, .int .i64 0, .slice none 0 0] 49)).grown hbt3 (by simp; omega)
  have T3 := (Blk.new w2 49 #[.string nm, .int .i64 (b2.toNat : Int), .slice none 0 0, .int .u32 0, .int .i64 0, .int .i64 0, .slice none 0 0]).grown hbt3 (by simp; omega)
  have hz3 := T3.lt
  have H3 := Lib.hid (And.intro hl3 (And.intro (but_trans (but_alloc_ H2.out.2.1 _) hbt3) (And.intro B3 (And.intro T3 hrd3))))
  clear hrd3 hl3 hbt3 B3 T3 C2
  go_wp2
  go_loopw [11] (fun v wr => ∃ (k : Nat) (cs : List Int) (u : Value) (rk : List UInt8) (sk : Bool), k ≤ b3.toNat ∧ v = .int .i64 k ∧ Blk wr w2.heap.size 49 #[.string nm, .int .i64 (b2.toNat : Int), u, .int .u32 0, .int .i64 0, .int .i64 0, .slice none 0 0] ∧ wr.ownsRow (w2.heap.size + 1) 3 1 u k (vI64 cs) ∧ cs.length = k ∧ Rd wr g B rk sk ∧ Rel (gMany (gInt gOne) k) r3 s3 cs rk sk ∧ w.grownBy wr (some g) ∧ Blk wr w.heap.size 49 #[.string ⟨#[]⟩, .int .i64 0, .slice none 0 0, .int .u32 0, .int .i64 0, .int .i64 0, .slice none 0 0]) (fun v _ => b3.toNat - (intOf v).toNat)
  case atStart => exact ⟨0, [], _, r3, s3, by omega, rfl, H3.out.2.2.2.1, ⟨rfl, .inl ⟨rfl, rfl⟩⟩, rfl, H3.out.2.2.2.2, rel_many_nil _ _ _, H3.out.2.1, H3.out.2.2.1⟩
  case round =>
    obtain ⟨wo, rfl⟩ : ∃ wo : World, wo = wr := ⟨_, rfl⟩
    obtain ⟨k, cs, u, rk, sk, hk, rfl, hT, own, hcl, hrd, hl, hbt, hR⟩ := hrel
    have q0 : (0 : Int) ≤ (k : Int) := by omega
    have t2 : wo.cell? ⟨w2.heap.size, 2, none⟩ = some u := hT.cell 2
    have hzo := hT.lt
    by_cases hlt : k < b3.toNat
    · have q1 : (k : Int) < (b3.toNat : Int) := by omega
      have q2 : k < 255 := by omega
      have CK := Lib.hid (count_rel g B _ _ wo.drew hrd.drew)
      have HQ := Lib.hid (And.intro hT (And.intro own (And.intro hcl (And.intro hrd (And.intro hl (And.intro hbt hR))))))
      clear hT own hcl hrd hl hbt hR
      go_wp2_with fail
      go_region_law (first
        | (refine step_go rfl ?_; go_simp; go_at_call 25; refine CK.out.mono ?_; rintro e w4 ⟨b4, r4, s4, rfl, hrd4, hl4, hbt4⟩; have T4 := HQ.out.1.drew.grown hbt4 (by simp; omega); have O4 := own_but HQ.out.2.1 (but_trans (but_drew (but_refl _ _)) hbt4) (by omega); have c4 : w4.cell? ⟨w2.heap.size, 2, none⟩ = some u := T4.cell 2; have z4 := T4.lt; have H4 := Lib.hid (And.intro T4 (And.intro O4 (And.intro hrd4 (And.intro hl4 hbt4)))); clear T4 O4 hrd4 hl4 hbt4)
        | (refine step_pushR (news := [.int .i64 (b4.toNat : Int)]) rfl (.tmp 14) (.tmp 17) 47 rfl (w2.heap.size + 1) 3 i0 _ 1 8 Try.underlying47 hi0 hz0 hs0 hy0 rfl (by decide) u k _ (by simp [Act.eval, Act.put]) H4.out.2.1 rfl _ (by simp [Act.eval, Act.put]) rfl rfl (by intro u hu; rw [List.mem_singleton] at hu; subst hu; rfl) (by omega) (by omega) (by omega) ?_; intro v5 w5 own5 hg5 hB5; obtain ⟨A5, cc5, rfl, hcc5⟩ := own_form own5; have T5 := blk_far_own (H4.out.2.1.alloc _) (H4.out.1.alloc _) hg5 (by omega); have c5 : w5.cell? ⟨w2.heap.size, 2, none⟩ = some u := T5.cell 2; have f5 : w5.frozen? ⟨w2.heap.size, 2, none⟩ = false := T5.frozen 2; have z5 := T5.lt; have H5 := Lib.hid (And.intro own5 (And.intro hg5 T5)); clear own5 hg5 T5))

      all_goals (try go_wp2)
      all_goals
        have hbt5 := but_own (but_alloc_ (but_trans (but_drew HQ.out.2.2.2.2.2.1) H4.out.2.2.2.2) (.cells #[.int .i64 (b4.toNat : Int)] 3)) (H4.out.2.1.alloc _) H5.out.2.1 (by omega)
        have hrd5 := ((H4.out.2.2.1.alloc (.cells #[.int .i64 (b4.toNat : Int)] 3)).own (H4.out.2.1.alloc _) H5.out.2.1 (by omega))
        have hR5 := blk_far_own (H4.out.2.1.alloc _) ((HQ.out.2.2.2.2.2.2.drew.grown H4.out.2.2.2.2 (by simp; omega)).alloc (.cells #[.int .i64 (b4.toNat : Int)] 3)) H5.out.2.1 (by omega)
        exact ⟨⟨k + 1, cs ++ [(b4.toNat : Int)], .slice A5 (k + 1) cc5, r4, s4, by omega, by go_num, H5.out.2.2.set_ 2 _, by rw [vI64_snoc]; exact own_farI H5.out.1 _ (by omega) _ _, by simp [HQ.out.2.2.1], hrd5.far (by simp; omega) _, HQ.out.2.2.2.2.1.snoc H4.out.2.2.2.1.int, but_far hbt5 (by simp; omega) _, hR5.far (by simp; omega) _⟩, by simp [intOf]; omega⟩
    · obtain rfl : b3.toNat = k := by omega
      obtain ⟨A1, c1, rfl, hc1⟩ := own_form own
      have N1 := Lib.hid (num_rel g B _ _ wo hrd)
      have HQ := Lib.hid (And.intro hT (And.intro own (And.intro hcl (And.intro hl (And.intro hbt hR)))))
      clear hT own hcl hrd hl hbt hR
      go_wp2_with fail
      refine N1.out.mono ?_
      rintro e w4 ⟨U1, r4, s4, rfl, hU1, hrd4, hl4, hbt4⟩
      have N2 := Lib.hid (num_rel g B _ _ w4 hrd4)
      have u10 : (0 : Int) ≤ (U1 : Int) := by omega
      have u11 : (U1 : Int) ≤ 4294967295 := by omega
      have H4 := Lib.hid (And.intro hl4 hbt4)
      clear hrd4 hl4 hbt4 N1 t2
      go_wp2_with fail
      refine N2.out.mono ?_
      rintro e w5 ⟨U2, r5, s5, rfl, hU2, hrd5, hl5, hbt5⟩
      have N3 := Lib.hid (num_rel g B _ _ w5 hrd5)
      have H5 := Lib.hid (And.intro hl5 hbt5)
      clear hrd5 hl5 hbt5 N2
      go_wp2_with fail
      refine N3.out.mono ?_
      rintro e w6 ⟨U3, r6, s6, rfl, hU3, hrd6, hl6, hbt6⟩
      have HB6 := but_trans (but_trans H4.out.2 H5.out.2) hbt6
      have T6 := HQ.out.1.grown HB6 (by simp; omega)
      have x2 : w6.cell? ⟨w2.heap.size, 2, none⟩ = some (.slice A1 b3.toNat c1) := T6.cell 2
      have x3 : w6.cell? ⟨w2.heap.size, 3, none⟩ = some (.int .u32 0) := T6.cell 3
      have x4 : w6.cell? ⟨w2.heap.size, 4, none⟩ = some (.int .i64 0) := T6.cell 4
      have x5 : w6.cell? ⟨w2.heap.size, 5, none⟩ = some (.int .i64 0) := T6.cell 5
      have f3 := T6.frozen 3
      have f4 := T6.frozen 4
      have f5 := T6.frozen 5
      have z6 := T6.lt
      have O6 := own_but HQ.out.2.1 HB6 (by omega)
      have R6 := HQ.out.2.2.2.2.2.grown HB6 (by simp; omega)
      have G6 := but_trans HQ.out.2.2.2.2.1 HB6
      have hk1 : ∀ kk, (Value.slice A1 b3.toNat c1).ownBlock = some kk → w2.heap.size + 1 ≤ kk ∧ kk < w6.heap.size := O6.lt
      have hN := rel_nums H4.out.1.int H5.out.1.int hl6.int
      have H6 := Lib.hid (And.intro T6 (And.intro O6 (And.intro R6 (And.intro G6 (And.intro hrd6 (And.intro hN hk1))))))
      clear T6 O6 R6 G6 hrd6 hl6 hbt6 HB6 N3 hN hk1
      go_wp2
      go_loopw [34] (fun v wr => ∃ (k : Nat) (ds : List Int) (u : Value) (rk : List UInt8) (sk : Bool), k ≤ b3.toNat ∧ v = .int .i64 k ∧ Blk wr w2.heap.size 49 #[.string nm, .int .i64 (b2.toNat : Int), .slice A1 b3.toNat c1, .int .u32 (U1 : Int), .int .i64 (U2 : Int), .int .i64 (U3 : Int), u] ∧ wr.ownsRow w6.heap.size 3 1 u k (vI64 ds) ∧ ds.length = k ∧ wr.ownsRow (w2.heap.size + 1) 3 1 (.slice A1 b3.toNat c1) b3.toNat (vI64 cs) ∧ Rd wr g B rk sk ∧ Rel (gMany (gInt gFour) k) r6 s6 ds rk sk ∧ w.grownBy wr (some g) ∧ Blk wr w.heap.size 49 #[.string ⟨#[]⟩, .int .i64 0, .slice none 0 0, .int .u32 0, .int .i64 0, .int .i64 0, .slice none 0 0] ∧ w6.heap.size ≤ wr.heap.size) (fun v _ => b3.toNat - (intOf v).toNat)
      case atStart => exact ⟨0, [], _, r6, s6, by omega, rfl, ((H6.out.1.set_ 3 (.int .u32 (U1 : Int))).set_ 4 (.int .i64 (U2 : Int))).set_ 5 (.int .i64 (U3 : Int)), ⟨rfl, .inl ⟨rfl, rfl⟩⟩, rfl, own_farI (own_farI (own_farI H6.out.2.1 _ (by omega) _ _) _ (by omega) _ _) _ (by omega) _ _, ((H6.out.2.2.2.2.1.far (by simp; omega) _).far (by simp; omega) _).far (by simp; omega) _, rel_many_nil _ _ _, but_far (but_far (but_far H6.out.2.2.2.1 (by simp; omega) _) (by simp; omega) _) (by simp; omega) _, ((H6.out.2.2.1.far (by simp; omega) _).far (by simp; omega) _).far (by simp; omega) _, by simp [World.setCell]⟩
      case round =>
        clear x2 x3 x4 x5 f3 f4 f5
        obtain ⟨w9, rfl⟩ : ∃ w9 : World, w9 = wo := ⟨_, rfl⟩
        obtain ⟨wo, rfl⟩ : ∃ wo : World, wo = wr := ⟨_, rfl⟩
        obtain ⟨k, ds, u, rk, sk, hk, rfl, hT, own, hdl, own1, hrd, hl, hbt, hR, hsz⟩ := hrel
        have q0 : (0 : Int) ≤ (k : Int) := by omega
        have t6 : wo.cell? ⟨w2.heap.size, 6, none⟩ = some u := hT.cell 6
        have hzo := hT.lt
        by_cases hlt : k < b3.toNat
        · have q1 : (k : Int) < (b3.toNat : Int) := by omega
          have q2 : k < 255 := by omega
          have CK := Lib.hid (num_rel g B _ _ wo.drew hrd.drew)
          have HK := Lib.hid (And.intro hT (And.intro own (And.intro hdl (And.intro own1 (And.intro hl (And.intro hbt hR))))))
          clear hT own hdl own1 hrd hl hbt hR
          go_wp2_with fail
          go_region_law (first
            | (refine step_go rfl ?_; go_simp; go_at_call 48; refine CK.out.mono ?_; rintro e w7 ⟨b4, r7, s7, rfl, hb4, hrd7, hl7, hbt7⟩; have T7 := HK.out.1.drew.grown hbt7 (by simp; omega); have B7 := but_trans (but_drew (but_refl _ _)) hbt7; have O7 := own_but HK.out.2.1 B7 (by omega); have P7 := own_but HK.out.2.2.2.1 B7 (by omega); have c7 : w7.cell? ⟨w2.heap.size, 6, none⟩ = some u := T7.cell 6; have z7 := T7.lt; have zz7 := B7.size; have H7 := Lib.hid (And.intro T7 (And.intro O7 (And.intro P7 (And.intro hrd7 (And.intro hl7 B7))))); clear T7 O7 P7 hrd7 hl7 hbt7 B7)
            | (refine step_pushR (news := [.int .i64 (b4 : Int)]) rfl (.tmp 37) (.tmp 40) 47 rfl w6.heap.size 3 i0 _ 1 8 Try.underlying47 hi0 hz0 hs0 hy0 rfl (by decide) u k _ (by simp [Act.eval, Act.put]) H7.out.2.1 rfl _ (by simp [Act.eval, Act.put]) rfl rfl (by intro u hu; rw [List.mem_singleton] at hu; subst hu; rfl) (by omega) (by omega) (by omega) ?_; intro v8 w8 own8 hg8 hB8; obtain ⟨A8, cc8, rfl, hcc8⟩ := own_form own8; have T8 := blk_far_own (H7.out.2.1.alloc _) (H7.out.1.alloc _) hg8 (by omega); have c8 : w8.cell? ⟨w2.heap.size, 6, none⟩ = some u := T8.cell 6; have f8 : w8.frozen? ⟨w2.heap.size, 6, none⟩ = false := T8.frozen 6; have z8 := T8.lt; have zz8 := hg8.size; have H8 := Lib.hid (And.intro own8 (And.intro hg8 T8)); clear own8 hg8 T8))
          all_goals (try go_wp2)
          all_goals
            have O7a := H7.out.2.1.alloc (.cells #[.int .i64 (b4 : Int)] 3)
            have hbt8 := but_own (but_alloc_ (but_trans HK.out.2.2.2.2.2.1 H7.out.2.2.2.2.2) (.cells #[.int .i64 (b4 : Int)] 3)) O7a H8.out.2.1 (by omega)
            have hrd8 := ((H7.out.2.2.2.1.alloc (.cells #[.int .i64 (b4 : Int)] 3)).own O7a H8.out.2.1 (by omega))
            have hR8 := blk_far_own O7a ((HK.out.2.2.2.2.2.2.grown H7.out.2.2.2.2.2 (by simp; omega)).alloc (.cells #[.int .i64 (b4 : Int)] 3)) H8.out.2.1 (by omega)
            have P8 := kept_low (H7.out.2.2.1.alloc (.cells #[.int .i64 (b4 : Int)] 3)) H8.out.2.1 O7a (fun kk h9 => (H6.out.2.2.2.2.2.2 kk h9).2)
            exact ⟨⟨k + 1, ds ++ [(b4 : Int)], .slice A8 (k + 1) cc8, r7, s7, by omega, by go_num, H8.out.2.2.set_ 6 _, by rw [vI64_snoc]; exact own_farI H8.out.1 _ (by omega) _ _, by simp [HK.out.2.2.1], own_farI P8 _ (by omega) _ _, hrd8.far (by simp; omega) _, HK.out.2.2.2.2.1.snoc H7.out.2.2.2.2.1.int, but_far hbt8 (by simp; omega) _, hR8.far (by simp; omega) _, by simp [World.setCell] at zz8 ⊢; omega⟩, by simp [intOf]; omega⟩
        · obtain rfl : b3.toNat = k := by omega
          obtain ⟨A2, cc2, rfl, hcc2⟩ := own_form own
          have e0 : wo.cell? ⟨w2.heap.size, 0, none⟩ = some (.string nm) := hT.cell 0
          have e1 : wo.cell? ⟨w2.heap.size, 1, none⟩ = some (.int .i64 (b2.toNat : Int)) := hT.cell 1
          have e2 : wo.cell? ⟨w2.heap.size, 2, none⟩ = some (.slice A1 b3.toNat c1) := hT.cell 2
          have e3 : wo.cell? ⟨w2.heap.size, 3, none⟩ = some (.int .u32 (U1 : Int)) := hT.cell 3
          have e4 : wo.cell? ⟨w2.heap.size, 4, none⟩ = some (.int .i64 (U2 : Int)) := hT.cell 4
          have e5 : wo.cell? ⟨w2.heap.size, 5, none⟩ = some (.int .i64 (U3 : Int)) := hT.cell 5
          have zR := hR.lt
          have r0 : wo.cell? ⟨w.heap.size, 0, none⟩ = some (.string ⟨#[]⟩) := hR.cell 0
          have r1' : wo.cell? ⟨w.heap.size, 1, none⟩ = some (.int .i64 0) := hR.cell 1
          have r2' : wo.cell? ⟨w.heap.size, 2, none⟩ = some (.slice none 0 0) := hR.cell 2
          have r3' : wo.cell? ⟨w.heap.size, 3, none⟩ = some (.int .u32 0) := hR.cell 3
          have r4' : wo.cell? ⟨w.heap.size, 4, none⟩ = some (.int .i64 0) := hR.cell 4
          have r5' : wo.cell? ⟨w.heap.size, 5, none⟩ = some (.int .i64 0) := hR.cell 5
          have r6' : wo.cell? ⟨w.heap.size, 6, none⟩ = some (.slice none 0 0) := hR.cell 6
          have g0 := hR.frozen 0
          have g1 := hR.frozen 1
          have g2 := hR.frozen 2
          have g3 := hR.frozen 3
          have g4 := hR.frozen 4
          have g5 := hR.frozen 5
          have g6 := hR.frozen 6
          have HZ := Lib.hid (And.intro own (And.intro hdl (And.intro own1 (And.intro hrd (And.intro hl (And.intro hbt hR))))))
          clear own hdl own1 hrd hl hbt hR hT
          go_wp2
          have zz : w.heap.size ≠ w2.heap.size := by omega
          have RF := ((((((HZ.out.2.2.2.2.2.2.set_ 0 (.string nm)).set_ 1 (.int .i64 (b2.toNat : Int))).set_ 2 (.slice A1 b3.toNat c1)).set_ 3 (.int .u32 (U1 : Int))).set_ 4 (.int .i64 (U2 : Int))).set_ 5 (.int .i64 (U3 : Int))).set_ 6 (.slice A2 b3.toNat cc2)
          have far7 : ∀ (n : Nat) (v : Value) (xs : List Value) (base : Nat), w2.heap.size < base → wo.ownsRow base 3 1 v n xs → (((((((wo.setCell ⟨w.heap.size, 0, none⟩ (.string nm)).setCell ⟨w.heap.size, 1, none⟩ (.int .i64 (b2.toNat : Int))).setCell ⟨w.heap.size, 2, none⟩ (.slice A1 b3.toNat c1)).setCell ⟨w.heap.size, 3, none⟩ (.int .u32 (U1 : Int))).setCell ⟨w.heap.size, 4, none⟩ (.int .i64 (U2 : Int))).setCell ⟨w.heap.size, 5, none⟩ (.int .i64 (U3 : Int))).setCell ⟨w.heap.size, 6, none⟩ (.slice A2 b3.toNat cc2)).ownsRow base 3 1 v n xs := fun n v xs base hb h => own_farI (own_farI (own_farI (own_farI (own_farI (own_farI (own_farI h _ (by omega) _ _) _ (by omega) _ _) _ (by omega) _ _) _ (by omega) _ _) _ (by omega) _ _) _ (by omega) _ _) _ (by omega) _ _
          have P1 := far7 _ _ _ _ (by omega) HZ.out.2.2.1
          have P2 := far7 _ _ _ _ (by omega) HZ.out.1
          refine ix_end RF (by simp) ⟨⟨nm, (b2.toNat : Int), A1, b3.toNat, c1, (U1 : Int), (U2 : Int), (U3 : Int), A2, b3.toNat, cc2, cs, ds⟩, rk, sk, rfl, ⟨⟨by (unfold maxLen; show nm.size ≤ _; omega), ⟨hc1, own_cap P1⟩, ⟨hcc2, own_cap P2⟩⟩, Reads.of_own P1, Reads.of_own P2, u10, u11⟩, fun ad h => by have := own_addr P1 ad h; omega, fun ad h => by have := own_addr P2 ad h; omega, ?_, rel_idx H1.out.1 H2.out.1.int H3.out.1 HQ.out.2.2.2.1 H6.out.2.2.2.2.2.1 HZ.out.2.2.2.2.1, ?_⟩
          · exact ((((((HZ.out.2.2.2.1.far hgl _).far hgl _).far hgl _).far hgl _).far hgl _).far hgl _).far hgl _
          · exact but_far (but_far (but_far (but_far (but_far (but_far (but_far HZ.out.2.2.2.2.2.1 (Nat.le_refl _) _) (Nat.le_refl _) _) (Nat.le_refl _) _) (Nat.le_refl _) _) (Nat.le_refl _) _) (Nat.le_refl _) _) (Nat.le_refl _) _
end
end Go.Proofs.Ytflolnilagogpaa
/-
  The reference's Value.
-/
namespace Go.Proofs.Ytflolnilagogpaa
section
set_option linter.unusedSimpArgs false
set_option linter.unusedVariables false
open Go.RowKit

theorem str_get {l : List UInt8} {j : Nat} {b : UInt8} (h : j < (str l).size) (hb : l[j]? = some b) : (str l)[j] = b := by
  have := str_at l j h
  rw [hb] at this
  exact (Option.some.inj this).symm
theorem val_step (U : Nat) (b : UInt8) (hU : U < 256 ^ 6) : IntKind.u64.wrap (IntKind.u64.wrap (256 * (U : Int)) + IntKind.u64.wrap (b.toNat : Int)) = ((256 * U + b.toNat : Nat) : Int) := by
  have hb := b.toNat_lt
  rw [IntKind.wrap_u64, IntKind.wrap_u64, IntKind.wrap_u64]
  omega
set_option maxRecDepth 100000 in
set_option maxHeartbeats 1000000 in
theorem dval_any (l : List UInt8) (hl : l.length ≤ 7) (w : World) : Calls Try.prog 53 #[.string (str l)] w fun e w' => e = .returned (.int .u64 (beVal l)) ∧ w = w' := by
  have hz : (str l).size ≤ 7 := by rw [str_size]; exact hl
  have hzl := Lib.hid (str_size l)
  go_enter Try.func53, Try.ntmps53
  go_wp2
  go_loop [3, 4] (fun uv iv => ∃ j : Nat, j ≤ l.length ∧ iv = .int .i64 j ∧ uv = .int .u64 ((beVal (l.take j) : Nat) : Int)) (fun _ iv => 10 - (intOf iv).toNat)
  case atStart => exact ⟨0, by omega, rfl, rfl⟩
  case round =>
    obtain ⟨j, hj, rfl, rfl⟩ := hrel
    have q0 : (0 : Int) ≤ (j : Int) := by omega
    by_cases hlt : j < (str l).size
    · have hlt' : j < l.length := by rw [← hzl.out]; exact hlt
      have hb : l[j]? = some l[j] := List.getElem?_eq_getElem hlt'
      have hg := Lib.hid (str_get hlt hb)
      have hbt := Lib.hid (beVal_take hb)
      have hU := beVal_lt_of (l := l.take j) (n := 6) (by rw [List.length_take]; omega)
      obtain ⟨b, hbe⟩ : ∃ b, l[j] = b := ⟨_, rfl⟩
      rw [hbe] at hg hbt
      have hor := Lib.hid (val_step (beVal (l.take j)) b hU)
      obtain ⟨U, hUe⟩ : ∃ U, beVal (l.take j) = U := ⟨_, rfl⟩
      rw [hUe] at hbt hor ⊢
      clear hbe hUe hU hb
      go_wp2
      go_round
      case rel => exact ⟨j + 1, by omega, by go_num, val_int (by rw [hg.out, hbt.out]; exact hor.out)⟩
      case measure => simp [intOf]; omega
    · have h1 : j = l.length := by have := hzl.out; omega
      have h2 : Hid (l.take j = l) := Lib.hid (List.take_of_length_le (by omega))
      rw [h2.out]
      clear h1
      go_wp2
      go_ret
      exact ⟨rfl, rfl⟩
end
end Go.Proofs.Ytflolnilagogpaa
