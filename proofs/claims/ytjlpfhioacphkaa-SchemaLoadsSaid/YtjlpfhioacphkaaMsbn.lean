/-
  Several texts in one: Ja Jb Jc Jg Jh Ji Jk Jl Jm.
-/
import Derived.Test.YtjlpfhioacphkaaMsbk
import Derived.Test.YtjlpfhioacphkaaMsbg
import Derived.Deep.RegionHeldLaw
/-
  The reader of a book's writing: an index.
-/
namespace Go.Proofs.Ytjlpfhioacphkaa
section
set_option linter.unusedSimpArgs false
set_option linter.unusedVariables false
open Go.RowKit

theorem kept_low {w w' : World} {base base2 n n2 size size2 : Nat} {e e2 : TypeId} {v v2 : Value} {xs xs2 : List Value} (h : w.ownsRow base e size v n xs) (hg : w.grownBy w' v2.ownBlock) (h2 : w.ownsRow base2 e2 size2 v2 n2 xs2) (hk : ∀ kk, v.ownBlock = some kk → kk < base2) : w'.ownsRow base e size v n xs := by
  refine h.kept hg ?_
  rcases Option.eq_none_or_eq_some v.ownBlock with h1 | ⟨kk, h1⟩
  · exact .inl h1
  · refine .inr fun e' => ?_
    rw [h1] at e'
    have h3 := (h2.lt kk e'.symm).1
    have h4 := hk kk h1
    omega
theorem own_addr {w : World} {base n c size : Nat} {e : TypeId} {A : Option Addr} {xs : List Value} (h : w.ownsRow base e size (.slice A n c) n xs) : ∀ ad, A = some ad → base ≤ ad.block := by
  rintro ad rfl
  exact (h.lt ad.block rfl).1
theorem own_cap12 {w : World} {base n c size : Nat} {e : TypeId} {A : Option Addr} {xs : List Value} (h : w.ownsRow base e size (.slice A n c) n xs) : c ≤ maxLen := by
  rcases h.2 with ⟨h1, _⟩ | ⟨g, cap, cs, h1, _, _, _, h2, _⟩
  · injection h1 with _ _ h3
    rw [h3]
    simp
  · injection h1 with _ _ h3
    rw [h3]
    exact h2
theorem ix_end {W : World} {R : Nat} {tm : Array Value} {Q : Ending → World → Prop} {nm : ByteArray} {tb : Int} {A1 : Option Addr} {n1 c1 : Nat} {ro lv hi : Int} {A2 : Option Addr} {n2 c2 : Nat} (hR : Blk W R 67 #[.string nm, .int .i64 tb, .slice A1 n1 c1, .int .u32 ro, .int .i64 lv, .int .i64 hi, .slice A2 n2 c2])
    (h2 : tm[2]? = some (.pointer (some ⟨R, 0, none⟩))) (h : Q (.returned (.agg #[.string nm, .int .i64 tb, .slice A1 n1 c1, .int .u32 ro, .int .i64 lv, .int .i64 hi, .slice A2 n2 c2])) W) :
    bodyPost Try.prog Try.f50 Q Exit.ret { tmps := tm, defers := [] } W := by
  have q0 : W.cell? ⟨R, 0, none⟩ = _ := hR.cell 0
  have q1 : W.cell? ⟨R, 1, none⟩ = _ := hR.cell 1
  have q2 : W.cell? ⟨R, 2, none⟩ = _ := hR.cell 2
  have q3 : W.cell? ⟨R, 3, none⟩ = _ := hR.cell 3
  have q4 : W.cell? ⟨R, 4, none⟩ = _ := hR.cell 4
  have q5 : W.cell? ⟨R, 5, none⟩ = _ := hR.cell 5
  have q6 : W.cell? ⟨R, 6, none⟩ = _ := hR.cell 6
  exact bodyPost_ret (v := .agg #[.string nm, .int .i64 tb, .slice A1 n1 c1, .int .u32 ro, .int .i64 lv, .int .i64 hi, .slice A2 n2 c2]) (by simp [results, Try.results50, go_sem, h2, q0, q1, q2, q3, q4, q5, q6]) rfl h
theorem step_go {P : Program} {w : World} {ops : Array Oper} {o : Oper} {a : Act} {K : Act → World → Prop} {Q : Exit → Act → World → Prop} {E : Prop} (hgd : o.guard = none) (h : Oper.wp P o a w K Q) : if Region.wanted o (yielded ops a.tmps) = true then Oper.wp P o a w K Q else E := by
  have hw : Region.wanted o (yielded ops a.tmps) = true := by simp [Region.wanted, hgd]
  rw [if_pos hw]
  exact h
theorem but_drew {a b : World} {g : Nat} (h : a.grownBy b (some g)) : a.grownBy b.drew (some g) := ⟨h.os, h.tape, h.output, h.size, h.block⟩
theorem but_alloc_ {a b : World} {g : Nat} (h : a.grownBy b (some g)) (o : Obj) : a.grownBy (b.alloc o) (some g) := but_trans h (but_alloc b g o)
theorem Rd.alloc {w : World} {g B : Nat} {r : List UInt8} {sh : Bool} (h : Rd w g B r sh) (o : Obj) : Rd (w.alloc o) g B r sh := by
  obtain ⟨A, m, c, h1, h2, h3, h4⟩ := h
  exact ⟨A, m, c, h1.alloc o, h2.alloc (by have := h1.lt; omega) o, h3, h4⟩
theorem Rd.drew {w : World} {g B : Nat} {r : List UInt8} {sh : Bool} (h : Rd w g B r sh) : Rd w.drew g B r sh := h
theorem Rd.lt {w : World} {g B : Nat} {r : List UInt8} {sh : Bool} (h : Rd w g B r sh) : g < w.heap.size := by
  obtain ⟨A, m, c, h1, h2, h3, h4⟩ := h
  exact h1.lt
theorem vI64_snoc (l : List Int) (z : Int) : vI64 (l ++ [z]) = vI64 l ++ [.int .i64 z] := by simp [vI64]
/-- What the reader answers: an index of new memory. -/
def RetIx (w : World) (g B : Nat) (r : List UInt8) (sh : Bool) (e : Ending) (w' : World) : Prop :=
  ∃ (x : Ix) (r' : List UInt8) (sh' : Bool), e = .returned x.agg ∧ IxIn w' w'.heap.size x ∧ (∀ ad, x.A = some ad → w.heap.size ≤ ad.block) ∧ (∀ ad, x.B = some ad → w.heap.size ≤ ad.block) ∧ Rd w' g B r' sh' ∧ Rel gIdx r sh x.px r' sh' ∧ w.grownBy w' (some g)
def RetC (w : World) (g B : Nat) (r : List UInt8) (sh : Bool) (e : Ending) (w' : World) : Prop :=
  ∃ (b : UInt8) (r' : List UInt8) (sh' : Bool), e = .returned (.int .i64 (b.toNat : Int)) ∧ Rd w' g B r' sh' ∧ Rel gOne r sh b.toNat r' sh' ∧ w.grownBy w' (some g)
theorem count_rel (g B : Nat) (r : List UInt8) (sh : Bool) (w : World) (h : Rd w g B r sh) : Calls Try.prog 48 #[.pointer (some ⟨g, 0, none⟩)] w (RetC w g B r sh) :=
  (count_any12 g B r sh w h).mono fun e w' ⟨b, hb, he, hr, hw⟩ => ⟨b, _, _, he, hr, rel_one hb, hw⟩
def RetU (w : World) (g B : Nat) (r : List UInt8) (sh : Bool) (e : Ending) (w' : World) : Prop :=
  ∃ (U : Nat) (r' : List UInt8) (sh' : Bool), e = .returned (.int .i64 (U : Int)) ∧ U < 4294967296 ∧ Rd w' g B r' sh' ∧ Rel gFour r sh U r' sh' ∧ w.grownBy w' (some g)
theorem num_rel (g B : Nat) (r : List UInt8) (sh : Bool) (w : World) (h : Rd w g B r sh) : Calls Try.prog 69 #[.pointer (some ⟨g, 0, none⟩)] w (RetU w g B r sh) :=
  (rnum_any g B r sh w h).mono fun e w' ⟨he, hr, hw⟩ => ⟨_, _, _, he, by have := beVal_lt (tk r 4); rw [tk_len] at this; exact this, hr, rel_four r sh, hw⟩
def RetS (w : World) (g B : Nat) (r : List UInt8) (sh : Bool) (e : Ending) (w' : World) : Prop :=
  ∃ (s : ByteArray) (r' : List UInt8) (sh' : Bool), e = .returned (.string s) ∧ s.size ≤ 255 ∧ Rd w' g B r' sh' ∧ Rel gText r sh s.data.toList r' sh' ∧ w.grownBy w' (some g)
theorem text_rel (g B : Nat) (r : List UInt8) (sh : Bool) (w : World) (h : Rd w g B r sh) : Calls Try.prog 68 #[.pointer (some ⟨g, 0, none⟩)] w (RetS w g B r sh) :=
  (text2_any g B r sh w h).mono fun e w' ⟨b, hb, he, hr, hw⟩ => ⟨_, _, _, he, by rw [str_size, tk_len]; have := b.toNat_lt; omega, hr, by rw [str_data]; exact rel_text hb, hw⟩
set_option maxRecDepth 100000 in
set_option maxHeartbeats 8000000 in
theorem rindex2_any (g B : Nat) (r : List UInt8) (sh : Bool) (w : World) (h : Rd w g B r sh) :
    Calls Try.prog 50 #[.pointer (some ⟨g, 0, none⟩)] w (RetIx w g B r sh) := by
  have hgl := h.lt
  have T := Lib.hid (text_rel g B r sh (w.alloc (.cells #[.string ⟨#[]⟩, .int .i64 0, .slice none 0 0, .int .u32 0, .int .i64 0, .int .i64 0, .slice none 0 0] 67)) (h.alloc _))
  have HW := Lib.hid (but_alloc w g (.cells #[.string ⟨#[]⟩, .int .i64 0, .slice none 0 0, .int .u32 0, .int .i64 0, .int .i64 0, .slice none 0 0] 67))
  have HR := Lib.hid (Blk.new w 67 #[.string ⟨#[]⟩, .int .i64 0, .slice none 0 0, .int .u32 0, .int .i64 0, .int .i64 0, .slice none 0 0])
  obtain ⟨i0, hi0, hz0, hs0, hy0⟩ := int_info8 Try.infoI
  clear h
  go_enter Try.func50, Try.ntmps50
  go_wp2_with fail
  refine T.out.mono ?_
  rintro e w1 ⟨nm, r1, s1, rfl, hnm, hrd1, hl1, hbt1⟩
  have C1 := Lib.hid (count_rel g B _ _ w1 hrd1)
  have B1 := HR.out.grown hbt1 (by simp; omega)
  have H1 := Lib.hid (And.intro hl1 (And.intro (but_trans HW.out hbt1) B1))
  clear hrd1 hl1 hbt1 B1 T
  go_wp2_with fail
  refine C1.out.mono ?_
  rintro e w2 ⟨b2, r2, s2, rfl, hrd2, hl2, hbt2⟩
  have b20 : (0 : Int) ≤ (b2.toNat : Int) := by omega
  have b21 : (b2.toNat : Int) ≤ 255 := by have := b2.toNat_lt; omega
  have B2 := H1.out.2.2.grown hbt2 (by simp; omega)
  have C2 := Lib.hid (count_rel g B _ _ (w2.alloc (.cells #[.string nm, .int .i64 (b2.toNat : Int), .slice none 0 0, .int .u32 0, .int .i64 0, .int .i64 0, .slice none 0 0] 67)) (hrd2.alloc _))
  have hz2 := B2.lt
  have H2 := Lib.hid (And.intro hl2 (And.intro (but_trans H1.out.2.1 hbt2) B2))
  clear hrd2 hl2 hbt2 B2 C1
  go_wp2_with fail
  refine C2.out.mono ?_
  rintro e w3 ⟨b3, r3, s3, rfl, hrd3, hl3, hbt3⟩
  have b30 : (0 : Int) ≤ (b3.toNat : Int) := by omega
  have b31 : (b3.toNat : Int) ≤ 255 := by have := b3.toNat_lt; omega
  have hg2 : g < w2.heap.size := by omega
  have B3 := (H2.out.2.2.alloc (.cells #[.string nm, .int .i64 (b2.toNat : Int), .slice none 0 0, .int .u32 0, .int .i64 0, .int .i64 0, .slice none 0 0] 67)).grown hbt3 (by simp; omega)
  have T3 := (Blk.new w2 67 #[.string nm, .int .i64 (b2.toNat : Int), .slice none 0 0, .int .u32 0, .int .i64 0, .int .i64 0, .slice none 0 0]).grown hbt3 (by simp; omega)
  have hz3 := T3.lt
  have H3 := Lib.hid (And.intro hl3 (And.intro (but_trans (but_alloc_ H2.out.2.1 _) hbt3) (And.intro B3 (And.intro T3 hrd3))))
  clear hrd3 hl3 hbt3 B3 T3 C2
  go_wp2
  go_loopw [11] (fun v wr => ∃ (k : Nat) (cs : List Int) (u : Value) (rk : List UInt8) (sk : Bool), k ≤ b3.toNat ∧ v = .int .i64 k ∧ Blk wr w2.heap.size 67 #[.string nm, .int .i64 (b2.toNat : Int), u, .int .u32 0, .int .i64 0, .int .i64 0, .slice none 0 0] ∧ wr.ownsRow (w2.heap.size + 1) 3 1 u k (vI64 cs) ∧ cs.length = k ∧ Rd wr g B rk sk ∧ Rel (gMany (gInt gOne) k) r3 s3 cs rk sk ∧ w.grownBy wr (some g) ∧ Blk wr w.heap.size 67 #[.string ⟨#[]⟩, .int .i64 0, .slice none 0 0, .int .u32 0, .int .i64 0, .int .i64 0, .slice none 0 0]) (fun v _ => b3.toNat - (intOf v).toNat)
  case atStart => exact ⟨0, [], _, r3, s3, by omega, rfl, H3.out.2.2.2.1, ⟨rfl, .inl ⟨rfl, rfl⟩⟩, rfl, H3.out.2.2.2.2, rel_many_nil _ _ _, H3.out.2.1, H3.out.2.2.1⟩
  case round =>
    obtain ⟨wo, rfl⟩ : ∃ wo : World, wo = wr := ⟨_, rfl⟩
    obtain ⟨k, cs, u, rk, sk, hk, rfl, hT, own, hcl, hrd, hl, hbt, hR⟩ := hrel
    have q0 : (0 : Int) ≤ (k : Int) := by omega
    have t2 : wo.cell? ⟨w2.heap.size, 2, none⟩ = some u := hT.cell 2
    have hzo := hT.lt
    by_cases hlt : k < b3.toNat
    · have q1 : (k : Int) < (b3.toNat : Int) := by omega
      have q2 : k < 255 := by omega
      have CK := Lib.hid (count_rel g B _ _ wo.drew hrd.drew)
      have HQ := Lib.hid (And.intro hT (And.intro own (And.intro hcl (And.intro hrd (And.intro hl (And.intro hbt hR))))))
      clear hT own hcl hrd hl hbt hR
      go_wp2_with fail
      go_region_law (first
        | (refine step_go rfl ?_; go_simp; go_at_call 48; refine CK.out.mono ?_; rintro e w4 ⟨b4, r4, s4, rfl, hrd4, hl4, hbt4⟩; have T4 := HQ.out.1.drew.grown hbt4 (by simp; omega); have O4 := own_but HQ.out.2.1 (but_trans (but_drew (but_refl _ _)) hbt4) (by omega); have c4 : w4.cell? ⟨w2.heap.size, 2, none⟩ = some u := T4.cell 2; have z4 := T4.lt; have H4 := Lib.hid (And.intro T4 (And.intro O4 (And.intro hrd4 (And.intro hl4 hbt4)))); clear T4 O4 hrd4 hl4 hbt4)
        | (refine step_pushR12 (news := [.int .i64 (b4.toNat : Int)]) rfl (.tmp 14) (.tmp 17) 65 rfl (w2.heap.size + 1) 3 i0 _ 1 8 Try.underlying65 hi0 hz0 hs0 hy0 rfl (by decide) u k _ (by simp [Act.eval, Act.put]) H4.out.2.1 rfl _ (by simp [Act.eval, Act.put]) rfl rfl (by intro u hu; rw [List.mem_singleton] at hu; subst hu; rfl) (by omega) (by omega) (by omega) ?_; intro v5 w5 own5 hg5 hB5; obtain ⟨A5, cc5, rfl, hcc5⟩ := own_form own5; have T5 := blk_far_own (H4.out.2.1.alloc _) (H4.out.1.alloc _) hg5 (by omega); have c5 : w5.cell? ⟨w2.heap.size, 2, none⟩ = some u := T5.cell 2; have f5 : w5.frozen? ⟨w2.heap.size, 2, none⟩ = false := T5.frozen 2; have z5 := T5.lt; have H5 := Lib.hid (And.intro own5 (And.intro hg5 T5)); clear own5 hg5 T5))

      all_goals (try go_wp2)
      all_goals
        have hbt5 := but_own (but_alloc_ (but_trans (but_drew HQ.out.2.2.2.2.2.1) H4.out.2.2.2.2) (.cells #[.int .i64 (b4.toNat : Int)] 3)) (H4.out.2.1.alloc _) H5.out.2.1 (by omega)
        have hrd5 := ((H4.out.2.2.1.alloc (.cells #[.int .i64 (b4.toNat : Int)] 3)).own (H4.out.2.1.alloc _) H5.out.2.1 (by omega))
        have hR5 := blk_far_own (H4.out.2.1.alloc _) ((HQ.out.2.2.2.2.2.2.drew.grown H4.out.2.2.2.2 (by simp; omega)).alloc (.cells #[.int .i64 (b4.toNat : Int)] 3)) H5.out.2.1 (by omega)
        exact ⟨⟨k + 1, cs ++ [(b4.toNat : Int)], .slice A5 (k + 1) cc5, r4, s4, by omega, by go_num, H5.out.2.2.set_ 2 _, by rw [vI64_snoc]; exact own_farI H5.out.1 _ (by omega) _ _, by simp [HQ.out.2.2.1], hrd5.far (by simp; omega) _, HQ.out.2.2.2.2.1.snoc H4.out.2.2.2.1.int, but_far hbt5 (by simp; omega) _, hR5.far (by simp; omega) _⟩, by simp [intOf]; omega⟩
    · obtain rfl : b3.toNat = k := by omega
      obtain ⟨A1, c1, rfl, hc1⟩ := own_form own
      have N1 := Lib.hid (num_rel g B _ _ wo hrd)
      have HQ := Lib.hid (And.intro hT (And.intro own (And.intro hcl (And.intro hl (And.intro hbt hR)))))
      clear hT own hcl hrd hl hbt hR
      go_wp2_with fail
      refine N1.out.mono ?_
      rintro e w4 ⟨U1, r4, s4, rfl, hU1, hrd4, hl4, hbt4⟩
      have N2 := Lib.hid (num_rel g B _ _ w4 hrd4)
      have u10 : (0 : Int) ≤ (U1 : Int) := by omega
      have u11 : (U1 : Int) ≤ 4294967295 := by omega
      have H4 := Lib.hid (And.intro hl4 hbt4)
      clear hrd4 hl4 hbt4 N1 t2
      go_wp2_with fail
      refine N2.out.mono ?_
      rintro e w5 ⟨U2, r5, s5, rfl, hU2, hrd5, hl5, hbt5⟩
      have N3 := Lib.hid (num_rel g B _ _ w5 hrd5)
      have H5 := Lib.hid (And.intro hl5 hbt5)
      clear hrd5 hl5 hbt5 N2
      go_wp2_with fail
      refine N3.out.mono ?_
      rintro e w6 ⟨U3, r6, s6, rfl, hU3, hrd6, hl6, hbt6⟩
      have HB6 := but_trans (but_trans H4.out.2 H5.out.2) hbt6
      have T6 := HQ.out.1.grown HB6 (by simp; omega)
      have x2 : w6.cell? ⟨w2.heap.size, 2, none⟩ = some (.slice A1 b3.toNat c1) := T6.cell 2
      have x3 : w6.cell? ⟨w2.heap.size, 3, none⟩ = some (.int .u32 0) := T6.cell 3
      have x4 : w6.cell? ⟨w2.heap.size, 4, none⟩ = some (.int .i64 0) := T6.cell 4
      have x5 : w6.cell? ⟨w2.heap.size, 5, none⟩ = some (.int .i64 0) := T6.cell 5
      have f3 := T6.frozen 3
      have f4 := T6.frozen 4
      have f5 := T6.frozen 5
      have z6 := T6.lt
      have O6 := own_but HQ.out.2.1 HB6 (by omega)
      have R6 := HQ.out.2.2.2.2.2.grown HB6 (by simp; omega)
      have G6 := but_trans HQ.out.2.2.2.2.1 HB6
      have hk1 : ∀ kk, (Value.slice A1 b3.toNat c1).ownBlock = some kk → w2.heap.size + 1 ≤ kk ∧ kk < w6.heap.size := O6.lt
      have hN := rel_nums H4.out.1.int H5.out.1.int hl6.int
      have H6 := Lib.hid (And.intro T6 (And.intro O6 (And.intro R6 (And.intro G6 (And.intro hrd6 (And.intro hN hk1))))))
      clear T6 O6 R6 G6 hrd6 hl6 hbt6 HB6 N3 hN hk1
      go_wp2
      go_loopw [34] (fun v wr => ∃ (k : Nat) (ds : List Int) (u : Value) (rk : List UInt8) (sk : Bool), k ≤ b3.toNat ∧ v = .int .i64 k ∧ Blk wr w2.heap.size 67 #[.string nm, .int .i64 (b2.toNat : Int), .slice A1 b3.toNat c1, .int .u32 (U1 : Int), .int .i64 (U2 : Int), .int .i64 (U3 : Int), u] ∧ wr.ownsRow w6.heap.size 3 1 u k (vI64 ds) ∧ ds.length = k ∧ wr.ownsRow (w2.heap.size + 1) 3 1 (.slice A1 b3.toNat c1) b3.toNat (vI64 cs) ∧ Rd wr g B rk sk ∧ Rel (gMany (gInt gFour) k) r6 s6 ds rk sk ∧ w.grownBy wr (some g) ∧ Blk wr w.heap.size 67 #[.string ⟨#[]⟩, .int .i64 0, .slice none 0 0, .int .u32 0, .int .i64 0, .int .i64 0, .slice none 0 0] ∧ w6.heap.size ≤ wr.heap.size) (fun v _ => b3.toNat - (intOf v).toNat)
      case atStart => exact ⟨0, [], _, r6, s6, by omega, rfl, ((H6.out.1.set_ 3 (.int .u32 (U1 : Int))).set_ 4 (.int .i64 (U2 : Int))).set_ 5 (.int .i64 (U3 : Int)), ⟨rfl, .inl ⟨rfl, rfl⟩⟩, rfl, own_farI (own_farI (own_farI H6.out.2.1 _ (by omega) _ _) _ (by omega) _ _) _ (by omega) _ _, ((H6.out.2.2.2.2.1.far (by simp; omega) _).far (by simp; omega) _).far (by simp; omega) _, rel_many_nil _ _ _, but_far (but_far (but_far H6.out.2.2.2.1 (by simp; omega) _) (by simp; omega) _) (by simp; omega) _, ((H6.out.2.2.1.far (by simp; omega) _).far (by simp; omega) _).far (by simp; omega) _, by simp [World.setCell]⟩
      case round =>
        clear x2 x3 x4 x5 f3 f4 f5
        obtain ⟨w9, rfl⟩ : ∃ w9 : World, w9 = wo := ⟨_, rfl⟩
        obtain ⟨wo, rfl⟩ : ∃ wo : World, wo = wr := ⟨_, rfl⟩
        obtain ⟨k, ds, u, rk, sk, hk, rfl, hT, own, hdl, own1, hrd, hl, hbt, hR, hsz⟩ := hrel
        have q0 : (0 : Int) ≤ (k : Int) := by omega
        have t6 : wo.cell? ⟨w2.heap.size, 6, none⟩ = some u := hT.cell 6
        have hzo := hT.lt
        by_cases hlt : k < b3.toNat
        · have q1 : (k : Int) < (b3.toNat : Int) := by omega
          have q2 : k < 255 := by omega
          have CK := Lib.hid (num_rel g B _ _ wo.drew hrd.drew)
          have HK := Lib.hid (And.intro hT (And.intro own (And.intro hdl (And.intro own1 (And.intro hl (And.intro hbt hR))))))
          clear hT own hdl own1 hrd hl hbt hR
          go_wp2_with fail
          go_region_law (first
            | (refine step_go rfl ?_; go_simp; go_at_call 69; refine CK.out.mono ?_; rintro e w7 ⟨b4, r7, s7, rfl, hb4, hrd7, hl7, hbt7⟩; have T7 := HK.out.1.drew.grown hbt7 (by simp; omega); have B7 := but_trans (but_drew (but_refl _ _)) hbt7; have O7 := own_but HK.out.2.1 B7 (by omega); have P7 := own_but HK.out.2.2.2.1 B7 (by omega); have c7 : w7.cell? ⟨w2.heap.size, 6, none⟩ = some u := T7.cell 6; have z7 := T7.lt; have zz7 := B7.size; have H7 := Lib.hid (And.intro T7 (And.intro O7 (And.intro P7 (And.intro hrd7 (And.intro hl7 B7))))); clear T7 O7 P7 hrd7 hl7 hbt7 B7)
            | (refine step_pushR12 (news := [.int .i64 (b4 : Int)]) rfl (.tmp 37) (.tmp 40) 65 rfl w6.heap.size 3 i0 _ 1 8 Try.underlying65 hi0 hz0 hs0 hy0 rfl (by decide) u k _ (by simp [Act.eval, Act.put]) H7.out.2.1 rfl _ (by simp [Act.eval, Act.put]) rfl rfl (by intro u hu; rw [List.mem_singleton] at hu; subst hu; rfl) (by omega) (by omega) (by omega) ?_; intro v8 w8 own8 hg8 hB8; obtain ⟨A8, cc8, rfl, hcc8⟩ := own_form own8; have T8 := blk_far_own (H7.out.2.1.alloc _) (H7.out.1.alloc _) hg8 (by omega); have c8 : w8.cell? ⟨w2.heap.size, 6, none⟩ = some u := T8.cell 6; have f8 : w8.frozen? ⟨w2.heap.size, 6, none⟩ = false := T8.frozen 6; have z8 := T8.lt; have zz8 := hg8.size; have H8 := Lib.hid (And.intro own8 (And.intro hg8 T8)); clear own8 hg8 T8))
          all_goals (try go_wp2)
          all_goals
            have O7a := H7.out.2.1.alloc (.cells #[.int .i64 (b4 : Int)] 3)
            have hbt8 := but_own (but_alloc_ (but_trans HK.out.2.2.2.2.2.1 H7.out.2.2.2.2.2) (.cells #[.int .i64 (b4 : Int)] 3)) O7a H8.out.2.1 (by omega)
            have hrd8 := ((H7.out.2.2.2.1.alloc (.cells #[.int .i64 (b4 : Int)] 3)).own O7a H8.out.2.1 (by omega))
            have hR8 := blk_far_own O7a ((HK.out.2.2.2.2.2.2.grown H7.out.2.2.2.2.2 (by simp; omega)).alloc (.cells #[.int .i64 (b4 : Int)] 3)) H8.out.2.1 (by omega)
            have P8 := kept_low (H7.out.2.2.1.alloc (.cells #[.int .i64 (b4 : Int)] 3)) H8.out.2.1 O7a (fun kk h9 => (H6.out.2.2.2.2.2.2 kk h9).2)
            exact ⟨⟨k + 1, ds ++ [(b4 : Int)], .slice A8 (k + 1) cc8, r7, s7, by omega, by go_num, H8.out.2.2.set_ 6 _, by rw [vI64_snoc]; exact own_farI H8.out.1 _ (by omega) _ _, by simp [HK.out.2.2.1], own_farI P8 _ (by omega) _ _, hrd8.far (by simp; omega) _, HK.out.2.2.2.2.1.snoc H7.out.2.2.2.2.1.int, but_far hbt8 (by simp; omega) _, hR8.far (by simp; omega) _, by simp [World.setCell] at zz8 ⊢; omega⟩, by simp [intOf]; omega⟩
        · obtain rfl : b3.toNat = k := by omega
          obtain ⟨A2, cc2, rfl, hcc2⟩ := own_form own
          have e0 : wo.cell? ⟨w2.heap.size, 0, none⟩ = some (.string nm) := hT.cell 0
          have e1 : wo.cell? ⟨w2.heap.size, 1, none⟩ = some (.int .i64 (b2.toNat : Int)) := hT.cell 1
          have e2 : wo.cell? ⟨w2.heap.size, 2, none⟩ = some (.slice A1 b3.toNat c1) := hT.cell 2
          have e3 : wo.cell? ⟨w2.heap.size, 3, none⟩ = some (.int .u32 (U1 : Int)) := hT.cell 3
          have e4 : wo.cell? ⟨w2.heap.size, 4, none⟩ = some (.int .i64 (U2 : Int)) := hT.cell 4
          have e5 : wo.cell? ⟨w2.heap.size, 5, none⟩ = some (.int .i64 (U3 : Int)) := hT.cell 5
          have zR := hR.lt
          have r0 : wo.cell? ⟨w.heap.size, 0, none⟩ = some (.string ⟨#[]⟩) := hR.cell 0
          have r1' : wo.cell? ⟨w.heap.size, 1, none⟩ = some (.int .i64 0) := hR.cell 1
          have r2' : wo.cell? ⟨w.heap.size, 2, none⟩ = some (.slice none 0 0) := hR.cell 2
          have r3' : wo.cell? ⟨w.heap.size, 3, none⟩ = some (.int .u32 0) := hR.cell 3
          have r4' : wo.cell? ⟨w.heap.size, 4, none⟩ = some (.int .i64 0) := hR.cell 4
          have r5' : wo.cell? ⟨w.heap.size, 5, none⟩ = some (.int .i64 0) := hR.cell 5
          have r6' : wo.cell? ⟨w.heap.size, 6, none⟩ = some (.slice none 0 0) := hR.cell 6
          have g0 := hR.frozen 0
          have g1 := hR.frozen 1
          have g2 := hR.frozen 2
          have g3 := hR.frozen 3
          have g4 := hR.frozen 4
          have g5 := hR.frozen 5
          have g6 := hR.frozen 6
          have HZ := Lib.hid (And.intro own (And.intro hdl (And.intro own1 (And.intro hrd (And.intro hl (And.intro hbt hR))))))
          clear own hdl own1 hrd hl hbt hR hT
          go_wp2
          have zz : w.heap.size ≠ w2.heap.size := by omega
          have RF := ((((((HZ.out.2.2.2.2.2.2.set_ 0 (.string nm)).set_ 1 (.int .i64 (b2.toNat : Int))).set_ 2 (.slice A1 b3.toNat c1)).set_ 3 (.int .u32 (U1 : Int))).set_ 4 (.int .i64 (U2 : Int))).set_ 5 (.int .i64 (U3 : Int))).set_ 6 (.slice A2 b3.toNat cc2)
          have far7 : ∀ (n : Nat) (v : Value) (xs : List Value) (base : Nat), w2.heap.size < base → wo.ownsRow base 3 1 v n xs → (((((((wo.setCell ⟨w.heap.size, 0, none⟩ (.string nm)).setCell ⟨w.heap.size, 1, none⟩ (.int .i64 (b2.toNat : Int))).setCell ⟨w.heap.size, 2, none⟩ (.slice A1 b3.toNat c1)).setCell ⟨w.heap.size, 3, none⟩ (.int .u32 (U1 : Int))).setCell ⟨w.heap.size, 4, none⟩ (.int .i64 (U2 : Int))).setCell ⟨w.heap.size, 5, none⟩ (.int .i64 (U3 : Int))).setCell ⟨w.heap.size, 6, none⟩ (.slice A2 b3.toNat cc2)).ownsRow base 3 1 v n xs := fun n v xs base hb h => own_farI (own_farI (own_farI (own_farI (own_farI (own_farI (own_farI h _ (by omega) _ _) _ (by omega) _ _) _ (by omega) _ _) _ (by omega) _ _) _ (by omega) _ _) _ (by omega) _ _) _ (by omega) _ _
          have P1 := far7 _ _ _ _ (by omega) HZ.out.2.2.1
          have P2 := far7 _ _ _ _ (by omega) HZ.out.1
          refine ix_end RF (by simp) ⟨⟨nm, (b2.toNat : Int), A1, b3.toNat, c1, (U1 : Int), (U2 : Int), (U3 : Int), A2, b3.toNat, cc2, cs, ds⟩, rk, sk, rfl, ⟨⟨by (unfold maxLen; show nm.size ≤ _; omega), ⟨hc1, own_cap12 P1⟩, ⟨hcc2, own_cap12 P2⟩⟩, Reads.of_own P1, Reads.of_own P2, u10, u11⟩, fun ad h => by have := own_addr P1 ad h; omega, fun ad h => by have := own_addr P2 ad h; omega, ?_, rel_idx H1.out.1 H2.out.1.int H3.out.1 HQ.out.2.2.2.1 H6.out.2.2.2.2.2.1 HZ.out.2.2.2.2.1, ?_⟩
          · exact ((((((HZ.out.2.2.2.1.far hgl _).far hgl _).far hgl _).far hgl _).far hgl _).far hgl _).far hgl _
          · exact but_far (but_far (but_far (but_far (but_far (but_far (but_far HZ.out.2.2.2.2.2.1 (Nat.le_refl _) _) (Nat.le_refl _) _) (Nat.le_refl _) _) (Nat.le_refl _) _) (Nat.le_refl _) _) (Nat.le_refl _) _) (Nat.le_refl _) _
end
end Go.Proofs.Ytjlpfhioacphkaa
/-
  The reader of a book's writing: a table.
-/
namespace Go.Proofs.Ytjlpfhioacphkaa
section
set_option linter.unusedSimpArgs false
set_option linter.unusedVariables false
open Go.RowKit

theorem Try.infoC : (Try.prog.info? 64).map (fun i => (i.zero, i.size, i.bytes)) = some (some (.agg #[.string ⟨#[]⟩, .int .u8 0, .int .i64 0, .int .i64 0]), 4, 40) := by kernel_rfl
theorem vC_snoc (l : List Cl) (c : Cl) : vC (l ++ [c]) = vC l ++ c.cells := by simp [vC]
theorem cell_but2 {a b : World} {g : Nat} (h : a.grownBy b (some g)) {p : Addr} {v : Value} (hp : a.cell? p = some v) (hne : p.block ≠ g) : b.cell? p = some v := cell_but h hp hne
/-- What the reader answers: a table of new memory. -/
def RetTb (w : World) (g B : Nat) (r : List UInt8) (sh : Bool) (e : Ending) (w' : World) : Prop :=
  ∃ (x : Tb) (r' : List UInt8) (sh' : Bool), e = .returned x.agg ∧ TbOk w' w'.heap.size x ∧ (∀ ad, x.A = some ad → w.heap.size ≤ ad.block) ∧ Rd w' g B r' sh' ∧ Rel gTab r sh x.pt r' sh' ∧ w.grownBy w' (some g)
theorem tb_end {W : World} {R : Nat} {tm : Array Value} {Q : Ending → World → Prop} {nm : ByteArray} {A1 : Option Addr} {n1 c1 : Nat} {f r p : Int} (hR : Blk W R 62 #[.string nm, .slice A1 n1 c1, .int .u32 f, .int .i64 r, .int .i64 p])
    (h2 : tm[2]? = some (.pointer (some ⟨R, 0, none⟩))) (h : Q (.returned (.agg #[.string nm, .slice A1 n1 c1, .int .u32 f, .int .i64 r, .int .i64 p])) W) :
    bodyPost Try.prog Try.f49 Q Exit.ret { tmps := tm, defers := [] } W := by
  have q0 : W.cell? ⟨R, 0, none⟩ = _ := hR.cell 0
  have q1 : W.cell? ⟨R, 1, none⟩ = _ := hR.cell 1
  have q2 : W.cell? ⟨R, 2, none⟩ = _ := hR.cell 2
  have q3 : W.cell? ⟨R, 3, none⟩ = _ := hR.cell 3
  have q4 : W.cell? ⟨R, 4, none⟩ = _ := hR.cell 4
  exact bodyPost_ret (v := .agg #[.string nm, .slice A1 n1 c1, .int .u32 f, .int .i64 r, .int .i64 p]) (by simp [results, Try.results49, go_sem, h2, q0, q1, q2, q3, q4]) rfl h
set_option maxRecDepth 100000 in
set_option maxHeartbeats 16000000 in
theorem rtable2_any (g B : Nat) (r : List UInt8) (sh : Bool) (w : World) (h : Rd w g B r sh) :
    Calls Try.prog 49 #[.pointer (some ⟨g, 0, none⟩)] w (RetTb w g B r sh) := by
  have hgl := h.lt
  have T := Lib.hid (text_rel g B r sh (w.alloc (.cells #[.string ⟨#[]⟩, .slice none 0 0, .int .u32 0, .int .i64 0, .int .i64 0] 62)) (h.alloc _))
  have HW := Lib.hid (but_alloc w g (.cells #[.string ⟨#[]⟩, .slice none 0 0, .int .u32 0, .int .i64 0, .int .i64 0] 62))
  have HR := Lib.hid (Blk.new w 62 #[.string ⟨#[]⟩, .slice none 0 0, .int .u32 0, .int .i64 0, .int .i64 0])
  obtain ⟨i0, hi0, hz0, hs0, hy0⟩ := int_info8 Try.infoC
  clear h
  go_enter Try.func49, Try.ntmps49
  go_wp2_with fail
  refine T.out.mono ?_
  rintro e w2 ⟨nm, r2, s2, rfl, hnm, hrd2, hl2, hbt2⟩
  have B2 := HR.out.grown hbt2 (by simp; omega)
  have C2 := Lib.hid (count_rel g B _ _ (w2.alloc (.cells #[.string nm, .slice none 0 0, .int .u32 0, .int .i64 0, .int .i64 0] 62)) (hrd2.alloc _))
  have hz2 := B2.lt
  have H2 := Lib.hid (And.intro hl2 (And.intro (but_trans HW.out hbt2) B2))
  clear hrd2 hl2 hbt2 B2 T
  go_wp2_with fail
  refine C2.out.mono ?_
  rintro e w3 ⟨b3, r3, s3, rfl, hrd3, hl3, hbt3⟩
  have b30 : (0 : Int) ≤ (b3.toNat : Int) := by omega
  have b31 : (b3.toNat : Int) ≤ 255 := by have := b3.toNat_lt; omega
  have hg2 : g < w2.heap.size := by omega
  have B3 := (H2.out.2.2.alloc (.cells #[.string nm, .slice none 0 0, .int .u32 0, .int .i64 0, .int .i64 0] 62)).grown hbt3 (by simp; omega)
  have T3 := (Blk.new w2 62 #[.string nm, .slice none 0 0, .int .u32 0, .int .i64 0, .int .i64 0]).grown hbt3 (by simp; omega)
  have hz3 := T3.lt
  have H3 := Lib.hid (And.intro hl3 (And.intro (but_trans (but_alloc_ H2.out.2.1 _) hbt3) (And.intro B3 (And.intro T3 hrd3))))
  clear hrd3 hl3 hbt3 B3 T3 C2
  go_wp2
  go_loopw [9] (fun v wr => ∃ (k : Nat) (cs : List Cl) (u : Value) (rk : List UInt8) (sk : Bool), k ≤ b3.toNat ∧ v = .int .i64 k ∧ Blk wr w2.heap.size 62 #[.string nm, u, .int .u32 0, .int .i64 0, .int .i64 0] ∧ wr.ownsRow (w2.heap.size + 1) 64 4 u k (vC cs) ∧ cs.length = k ∧ Rd wr g B rk sk ∧ Rel (gMany gCol k) r3 s3 (cs.map Cl.pc) rk sk ∧ w.grownBy wr (some g) ∧ Blk wr w.heap.size 62 #[.string ⟨#[]⟩, .slice none 0 0, .int .u32 0, .int .i64 0, .int .i64 0] ∧ ∀ c ∈ cs, c.ok) (fun v _ => b3.toNat - (intOf v).toNat)
  case atStart => exact ⟨0, [], _, r3, s3, by omega, rfl, H3.out.2.2.2.1, ⟨rfl, .inl ⟨rfl, rfl⟩⟩, rfl, H3.out.2.2.2.2, rel_many_nil _ _ _, H3.out.2.1, H3.out.2.2.1, by simp⟩
  case round =>
    obtain ⟨wo, rfl⟩ : ∃ wo : World, wo = wr := ⟨_, rfl⟩
    obtain ⟨k, cs, u, rk, sk, hk, rfl, hT, own, hcl, hrd, hl, hbt, hR, hok⟩ := hrel
    have q0 : (0 : Int) ≤ (k : Int) := by omega
    have t1 : wo.cell? ⟨w2.heap.size, 1, none⟩ = some u := hT.cell 1
    have hzo := hT.lt
    by_cases hlt : k < b3.toNat
    · have q1 : (k : Int) < (b3.toNat : Int) := by omega
      have q2 : k < 255 := by omega
      have C4 := Lib.hid (text_rel g B _ _ wo.drew hrd.drew)
      have HQ := Lib.hid (And.intro hT (And.intro own (And.intro hcl (And.intro hl (And.intro hbt (And.intro hR hok))))))
      clear hT own hcl hrd hl hbt hR hok
      go_wp2_with fail
      go_region_law (first
        | (refine step_go rfl ?_; go_simp; go_at_call 68; refine C4.out.mono ?_; rintro e w4 ⟨cn, r4, s4, rfl, hcn, hrd4, hl4, hbt4⟩; have B4 := but_trans (but_drew (but_refl _ _)) hbt4; have T4 := HQ.out.1.grown B4 (by simp; omega); have c4 : w4.cell? ⟨w2.heap.size, 1, none⟩ = some u := T4.cell 1; have z4 := T4.lt; have C5 := Lib.hid (byte_any g B _ _ w4 hrd4); have H4 := Lib.hid (And.intro hl4 B4); clear T4 hrd4 hl4 hbt4 B4)
        | (refine step_go rfl ?_; go_simp; go_at_call 67; refine C5.out.mono ?_; rintro e w5 ⟨b5, ad5, cc5, hb5, rfl, cb5, hne5, hrd5, hbt5⟩; have B5 := but_trans H4.out.2 hbt5; have T5 := HQ.out.1.grown B5 (by simp; omega); have c5 : w5.cell? ⟨w2.heap.size, 1, none⟩ = some u := T5.cell 1; have z5 := T5.lt; have C6 := Lib.hid (num_rel g B _ _ w5 hrd5); have b50 : (0 : Int) ≤ (b5.toNat : Int) := (by omega); have b51 : (b5.toNat : Int) ≤ 255 := (by have := b5.toNat_lt; omega); have H5 := Lib.hid (And.intro (rel_one (sh := s4) hb5) (And.intro B5 (And.intro cb5 hne5))); clear T5 hrd5 hbt5 B5 hb5 hne5)
        | (refine step_go rfl ?_; go_simp; go_at_call 69; refine C6.out.mono ?_; rintro e w6 ⟨U6, r6, s6, rfl, hU6, hrd6, hl6, hbt6⟩; have B6 := but_trans H5.out.2.1 hbt6; have T6 := HQ.out.1.grown B6 (by simp; omega); have c6 : w6.cell? ⟨w2.heap.size, 1, none⟩ = some u := T6.cell 1; have cb6 := cell_but hbt6 H5.out.2.2.1 H5.out.2.2.2; have z6 := T6.lt; have C7 := Lib.hid (num_rel g B _ _ w6 hrd6); have H6 := Lib.hid (And.intro hl6 (And.intro B6 cb6)); clear T6 hrd6 hl6 hbt6 B6)
        | (refine step_go rfl ?_; go_simp; go_at_call 69; refine C7.out.mono ?_; rintro e w7 ⟨U7, r7, s7, rfl, hU7, hrd7, hl7, hbt7⟩; have B7 := but_trans H6.out.2.1 hbt7; have T7 := HQ.out.1.grown B7 (by simp; omega); have c7 : w7.cell? ⟨w2.heap.size, 1, none⟩ = some u := T7.cell 1; have cb7 := cell_but hbt7 H6.out.2.2 H5.out.2.2.2; have z7 := T7.lt; have O7 := own_but HQ.out.2.1 B7 (by omega); have H7 := Lib.hid (And.intro hl7 (And.intro B7 (And.intro T7 (And.intro O7 hrd7)))); clear T7 hrd7 hl7 hbt7 B7 O7)
        | (refine step_pushR12 (news := [.string cn, .int .u8 (b5.toNat : Int), .int .i64 (U6 : Int), .int .i64 (U7 : Int)]) rfl (.tmp 12) (.tmp 24) 60 rfl (w2.heap.size + 1) 64 i0 _ 4 40 Try.underlying60 hi0 hz0 hs0 hy0 rfl (by decide) u k _ (by simp [Act.eval, Act.put]) H7.out.2.2.2.1 rfl _ (by simp [Act.eval, Act.put]) rfl rfl (by intro u hu; simp only [List.mem_cons, List.not_mem_nil, or_false] at hu; rcases hu with rfl | rfl | rfl | rfl <;> rfl) (by omega) (by omega) (by omega) ?_; intro v8 w8 own8 hg8 hB8; obtain ⟨A8, cc8, rfl, hcc8⟩ := own_form own8; have T8 := blk_far_own (H7.out.2.2.2.1.alloc _) (H7.out.2.2.1.alloc _) hg8 (by omega); have c8 : w8.cell? ⟨w2.heap.size, 1, none⟩ = some u := T8.cell 1; have f8 : w8.frozen? ⟨w2.heap.size, 1, none⟩ = false := T8.frozen 1; have z8 := T8.lt; have H8 := Lib.hid (And.intro own8 (And.intro hg8 T8)); clear own8 hg8 T8))
      all_goals (try go_wp2)
      all_goals
        have O7a := H7.out.2.2.2.1.alloc (.cells #[.string cn, .int .u8 (b5.toNat : Int), .int .i64 (U6 : Int), .int .i64 (U7 : Int)] 64)
        have hbt8 := but_own (but_alloc_ (but_trans HQ.out.2.2.2.2.1 H7.out.2.1) (.cells #[.string cn, .int .u8 (b5.toNat : Int), .int .i64 (U6 : Int), .int .i64 (U7 : Int)] 64)) O7a H8.out.2.1 (by omega)
        have hrd8 := ((H7.out.2.2.2.2.alloc (.cells #[.string cn, .int .u8 (b5.toNat : Int), .int .i64 (U6 : Int), .int .i64 (U7 : Int)] 64)).own O7a H8.out.2.1 (by omega))
        have hR8 := blk_far_own O7a ((HQ.out.2.2.2.2.2.1.grown H7.out.2.1 (by simp; omega)).alloc (.cells #[.string cn, .int .u8 (b5.toNat : Int), .int .i64 (U6 : Int), .int .i64 (U7 : Int)] 64)) H8.out.2.1 (by omega)
        have hcol := rel_col H4.out.1 H5.out.1.int H6.out.1.int H7.out.1.int
        exact ⟨⟨k + 1, cs ++ [⟨cn, (b5.toNat : Int), (U6 : Int), (U7 : Int)⟩], .slice A8 (k + 1) cc8, r7, s7, by omega, by go_num, H8.out.2.2.set_ 1 _, by rw [vC_snoc]; exact own_farI H8.out.1 _ (by omega) _ _, by simp [HQ.out.2.2.1], hrd8.far (by simp; omega) _, by rw [List.map_append]; exact HQ.out.2.2.2.1.snoc hcol, but_far hbt8 (by simp; omega) _, hR8.far (by simp; omega) _, fun c hc => by
          rcases List.mem_append.1 hc with h1 | h1
          · exact HQ.out.2.2.2.2.2.2 c h1
          · rw [List.mem_singleton] at h1
            subst h1
            exact ⟨by (unfold maxLen; show cn.size ≤ _; omega), b50, b51⟩⟩, by simp [intOf]; omega⟩
    · obtain rfl : b3.toNat = k := by omega
      obtain ⟨A1, c1, rfl, hc1⟩ := own_form own
      have N1 := Lib.hid (num_rel g B _ _ wo hrd)
      have HQ := Lib.hid (And.intro hT (And.intro own (And.intro hcl (And.intro hl (And.intro hbt (And.intro hR hok))))))
      clear hT own hcl hrd hl hbt hR hok
      go_wp2_with fail
      refine N1.out.mono ?_
      rintro e w4 ⟨U1, r4, s4, rfl, hU1, hrd4, hl4, hbt4⟩
      have N2 := Lib.hid (num_rel g B _ _ w4 hrd4)
      have u10 : (0 : Int) ≤ (U1 : Int) := by omega
      have u11 : (U1 : Int) ≤ 4294967295 := by omega
      have H4 := Lib.hid (And.intro hl4 hbt4)
      clear hrd4 hl4 hbt4 N1 t1
      go_wp2_with fail
      refine N2.out.mono ?_
      rintro e w5 ⟨U2, r5, s5, rfl, hU2, hrd5, hl5, hbt5⟩
      have N3 := Lib.hid (num_rel g B _ _ w5 hrd5)
      have H5 := Lib.hid (And.intro hl5 hbt5)
      clear hrd5 hl5 hbt5 N2
      go_wp2_with fail
      refine N3.out.mono ?_
      rintro e w6 ⟨U3, r6, s6, rfl, hU3, hrd6, hl6, hbt6⟩
      have HB6 := but_trans (but_trans H4.out.2 H5.out.2) hbt6
      have T6 := HQ.out.1.grown HB6 (by simp; omega)
      have x0 : w6.cell? ⟨w2.heap.size, 0, none⟩ = some (.string nm) := T6.cell 0
      have x1 : w6.cell? ⟨w2.heap.size, 1, none⟩ = some (.slice A1 b3.toNat c1) := T6.cell 1
      have x2 : w6.cell? ⟨w2.heap.size, 2, none⟩ = some (.int .u32 0) := T6.cell 2
      have x3 : w6.cell? ⟨w2.heap.size, 3, none⟩ = some (.int .i64 0) := T6.cell 3
      have x4 : w6.cell? ⟨w2.heap.size, 4, none⟩ = some (.int .i64 0) := T6.cell 4
      have f2 := T6.frozen 2
      have f3 := T6.frozen 3
      have f4 := T6.frozen 4
      have z6 := T6.lt
      have O6 := own_but HQ.out.2.1 HB6 (by omega)
      have R6 := HQ.out.2.2.2.2.2.1.grown HB6 (by simp; omega)
      have G6 := but_trans HQ.out.2.2.2.2.1 HB6
      have hN := rel_nums H4.out.1.int H5.out.1.int hl6.int
      have zR := R6.lt
      have zne : w.heap.size ≠ w2.heap.size := by omega
      have y0 : w6.cell? ⟨w.heap.size, 0, none⟩ = some (.string ⟨#[]⟩) := R6.cell 0
      have y1 : w6.cell? ⟨w.heap.size, 1, none⟩ = some (.slice none 0 0) := R6.cell 1
      have y2 : w6.cell? ⟨w.heap.size, 2, none⟩ = some (.int .u32 0) := R6.cell 2
      have y3 : w6.cell? ⟨w.heap.size, 3, none⟩ = some (.int .i64 0) := R6.cell 3
      have y4 : w6.cell? ⟨w.heap.size, 4, none⟩ = some (.int .i64 0) := R6.cell 4
      have g0 := R6.frozen 0
      have g1 := R6.frozen 1
      have g2 := R6.frozen 2
      have g3 := R6.frozen 3
      have g4 := R6.frozen 4
      have H6 := Lib.hid (And.intro T6 (And.intro O6 (And.intro R6 (And.intro G6 (And.intro hrd6 hN)))))
      clear T6 O6 R6 G6 hrd6 hl6 hbt6 HB6 N3 hN
      go_wp2
      have RF := (((((((H6.out.2.2.1.far (p := ⟨w2.heap.size, 2, none⟩) (by simp; omega) (.int .u32 (U1 : Int))).far (p := ⟨w2.heap.size, 3, none⟩) (by simp; omega) (.int .i64 (U2 : Int))).far (p := ⟨w2.heap.size, 4, none⟩) (by simp; omega) (.int .i64 (U3 : Int))).set_ 0 (.string nm)).set_ 1 (.slice A1 b3.toNat c1)).set_ 2 (.int .u32 (U1 : Int))).set_ 3 (.int .i64 (U2 : Int))).set_ 4 (.int .i64 (U3 : Int))
      have P1 := own_farI (own_farI (own_farI (own_farI (own_farI (own_farI (own_farI (own_farI H6.out.2.1 w2.heap.size (by omega) 2 (.int .u32 (U1 : Int))) w2.heap.size (by omega) 3 (.int .i64 (U2 : Int))) w2.heap.size (by omega) 4 (.int .i64 (U3 : Int))) w.heap.size (by omega) 0 (.string nm)) w.heap.size (by omega) 1 (.slice A1 b3.toNat c1)) w.heap.size (by omega) 2 (.int .u32 (U1 : Int))) w.heap.size (by omega) 3 (.int .i64 (U2 : Int))) w.heap.size (by omega) 4 (.int .i64 (U3 : Int))
      refine tb_end RF (by simp) ⟨⟨nm, A1, b3.toNat, c1, (U1 : Int), (U2 : Int), (U3 : Int), cs⟩, r6, s6, rfl, ⟨⟨by (unfold maxLen; show nm.size ≤ _; omega), ⟨hc1, own_cap12 P1⟩, Reads.of_own P1, HQ.out.2.2.2.2.2.2⟩, u10, u11⟩, fun ad h => by have := own_addr P1 ad h; omega, ?_, rel_tab H2.out.1 H3.out.1 HQ.out.2.2.2.1 H6.out.2.2.2.2.2, ?_⟩
      · exact ((((((((H6.out.2.2.2.2.1.far hg2 _).far hg2 _).far hg2 _).far hgl _).far hgl _).far hgl _).far hgl _).far hgl _)
      · have hw2 : w.heap.size ≤ w2.heap.size := by omega
        exact but_far (but_far (but_far (but_far (but_far (but_far (but_far (but_far H6.out.2.2.2.1 hw2 _) hw2 _) hw2 _) (Nat.le_refl _) _) (Nat.le_refl _) _) (Nat.le_refl _) _) (Nat.le_refl _) _) (Nat.le_refl _) _
end
end Go.Proofs.Ytjlpfhioacphkaa
/-
  The program's Get.
-/
namespace Go.Proofs.Ytjlpfhioacphkaa
section
set_option linter.unusedSimpArgs false
set_option linter.unusedVariables false
open Go.RowKit

theorem Try.infoT : (Try.prog.info? 62).map (fun i => (i.zero, i.size, i.bytes)) = some (some (.agg #[.string ⟨#[]⟩, .slice none 0 0, .int .u32 0, .int .i64 0, .int .i64 0]), 5, 64) := by kernel_rfl
theorem Try.infoX : (Try.prog.info? 67).map (fun i => (i.zero, i.size, i.bytes)) = some (some (.agg #[.string ⟨#[]⟩, .int .i64 0, .slice none 0 0, .int .u32 0, .int .i64 0, .int .i64 0, .slice none 0 0]), 7, 96) := by kernel_rfl
theorem vTb_snoc (l : List Tb) (c : Tb) : vTb (l ++ [c]) = vTb l ++ c.cells := by simp [vTb]
theorem vIx_snoc (l : List Ix) (c : Ix) : vIx (l ++ [c]) = vIx l ++ c.cells := by simp [vIx]
theorem reads_stay {w w' : World} {sz n : Nat} {A : Option Addr} {xs : List Value} (h : Reads w w.heap.size sz A n xs) (hs : w.heap.size ≤ w'.heap.size) (hb : 0 < n → ∀ ad, A = some ad → w'.heap[ad.block]? = w.heap[ad.block]?) : Reads w' w'.heap.size sz A n xs := by
  refine ⟨h.1, fun hn => ?_⟩
  obtain ⟨ad, e, hlt, hc⟩ := h.2 hn
  refine ⟨ad, e, by omega, fun k u hu => ?_⟩
  have h1 := hc k u hu
  have h2 := hb hn ad e
  unfold World.cell? at h1 ⊢
  rw [block_of_add] at h1 ⊢
  rw [h2]
  exact h1
theorem TbOk.stay {w w' : World} {t : Tb} (h : TbOk w w.heap.size t) (hs : w.heap.size ≤ w'.heap.size) (hb : 0 < t.n → ∀ ad, t.A = some ad → w'.heap[ad.block]? = w.heap[ad.block]?) : TbOk w' w'.heap.size t :=
  ⟨⟨h.1.1, h.1.2.1, reads_stay h.1.2.2.1 hs hb, h.1.2.2.2⟩, h.2⟩
theorem IxIn.stay {w w' : World} {x : Ix} (h : IxIn w w.heap.size x) (hs : w.heap.size ≤ w'.heap.size) (hb : 0 < x.n → ∀ ad, x.A = some ad → w'.heap[ad.block]? = w.heap[ad.block]?) (hb2 : 0 < x.m → ∀ ad, x.B = some ad → w'.heap[ad.block]? = w.heap[ad.block]?) : IxIn w' w'.heap.size x :=
  ⟨h.1, reads_stay h.2.1 hs hb, reads_stay h.2.2.1 hs hb2, h.2.2.2⟩
/-- Where a row of an element lies: not in the reader's block, not in the book's, not in the own row. -/
def Ap (u : Value) (G T : Nat) (A : Option Addr) (n : Nat) : Prop := 0 < n → ∀ ad, A = some ad → ad.block ≠ G ∧ T < ad.block ∧ u.ownBlock ≠ some ad.block
theorem reads_lt {w : World} {B sz n : Nat} {A : Option Addr} {xs : List Value} (h : Reads w B sz A n xs) (hn : 0 < n) : ∀ ad, A = some ad → ad.block < B := by
  rintro ad rfl
  obtain ⟨ad', e, hlt, _⟩ := h.2 hn
  cases e
  exact hlt
section
variable {wo w4 w5 : World} {G T j : Nat} {u x : Value} {ob : Obj}
theorem stayN (h3 : (w4.alloc ob).grownBy w5 u.ownBlock) {b : Nat} (hb : b < w4.heap.size) (h1 : u.ownBlock ≠ some b) (h2 : b ≠ T) : (w5.setCell ⟨T, j, none⟩ x).heap[b]? = w4.heap[b]? :=
  (Below.heap_setCell _ _ _ _ (fun e => h2 (by rw [e]))).trans ((h3.block b (by simp; omega) (fun e => h1 e.symm)).trans (Below.heap_alloc w4 ob b hb))
theorem stayO (h1 : wo.grownBy w4 (some G)) (h3 : (w4.alloc ob).grownBy w5 u.ownBlock) {b : Nat} (hb : b < wo.heap.size) (hg : b ≠ G) (hu : u.ownBlock ≠ some b) (ht : b ≠ T) : (w5.setCell ⟨T, j, none⟩ x).heap[b]? = wo.heap[b]? :=
  (stayN h3 (Nat.lt_of_lt_of_le hb h1.size) hu ht).trans (h1.block b hb (by simpa using hg))
end
theorem low_but {B : Nat} {w a b : World} {g : Nat} (h : Below B w a) (k : a.grownBy b (some g)) (hg : B ≤ g) (hB : B ≤ a.heap.size) : Below B w b :=
  ⟨k.os.trans h.os, k.tape.trans h.tape, k.output.trans h.output, Nat.le_trans h.size k.size, fun i hi => (k.block i (by omega) (by simp; omega)).trans (h.block i hi)⟩
theorem low_own {B base n size : Nat} {w a b : World} {e : TypeId} {v : Value} {xs : List Value} (h : Below B w a) (ho : a.ownsRow base e size v n xs) (k : a.grownBy b v.ownBlock) (hg : B ≤ base) (hB : B ≤ a.heap.size) : Below B w b :=
  ⟨k.os.trans h.os, k.tape.trans h.tape, k.output.trans h.output, Nat.le_trans h.size k.size, fun i hi => (k.block i (by omega) (fun e' => by have := (ho.lt i e'.symm).1; omega)).trans (h.block i hi)⟩
theorem rel_book {r r1 r2 r3 r4 : List UInt8} {sh s1 s2 s3 s4 : Bool} {n m : Nat} {ts : List PT} {xs : List PX} (h1 : Rel gOne r sh n r1 s1) (h2 : Rel (gMany gTab n) r1 s1 ts r2 s2) (h3 : Rel gOne r2 s2 m r3 s3) (h4 : Rel (gMany gIdx m) r3 s3 xs r4 s4) : Rel gBook r sh ⟨ts, xs⟩ r4 s4 := by
  refine ⟨fun h => h4.1 (h3.1 (h2.1 (h1.1 h))), fun h => ?_⟩
  unfold gBook
  rcases h1.2 h with ⟨e1, e2⟩ | ⟨e1, e2⟩ <;> rw [e2]
  · exact .inl ⟨h4.1 (h3.1 (h2.1 e1)), rfl⟩
  simp only
  rcases h2.2 e1 with ⟨e3, e4⟩ | ⟨e3, e4⟩ <;> rw [e4]
  · exact .inl ⟨h4.1 (h3.1 e3), rfl⟩
  simp only
  rcases h3.2 e3 with ⟨e5, e6⟩ | ⟨e5, e6⟩ <;> rw [e6]
  · exact .inl ⟨h4.1 e5, rfl⟩
  simp only
  rcases h4.2 e5 with ⟨e7, e8⟩ | ⟨e7, e8⟩ <;> rw [e8]
  · exact .inl ⟨e7, rfl⟩
  · exact .inr ⟨e7, rfl⟩
/-- What Get answers: the book that is written, or an error and an empty one. -/
def RetGet12 (w : World) (bs : List UInt8) (e : Ending) (w' : World) : Prop :=
  ∃ (A1 : Option Addr) (n1 c1 : Nat) (l : List Tb) (A2 : Option Addr) (n2 c2 : Nat) (r : List Ix) (e0 : Int), e = .returned (.tuple #[.agg #[.slice A1 n1 c1, .slice A2 n2 c2], .int .i64 e0]) ∧ BkIn w' A1 n1 c1 l A2 n2 c2 r ∧ Below w.heap.size w w' ∧
    ((e0 = 0 ∧ gBook bs = some (pbk l r, []) ∧ MayB (pbk l r)) ∨ (e0 = 2 ∧ l = [] ∧ r = [] ∧ ¬ ∃ b, gBook bs = some (b, []) ∧ MayB b))
theorem get_end {W : World} {R : Nat} {tm : Array Value} {Q : Ending → World → Prop} {A1 : Option Addr} {n1 c1 : Nat} {A2 : Option Addr} {n2 c2 : Nat} {e0 : Int} (hR : Blk W R 25 #[.slice A1 n1 c1, .slice A2 n2 c2])
    (h2 : tm[2]? = some (.pointer (some ⟨R, 0, none⟩))) (h3 : tm[3]? = some (.int .i64 e0)) (h : Q (.returned (.tuple #[.agg #[.slice A1 n1 c1, .slice A2 n2 c2], .int .i64 e0])) W) :
    bodyPost Try.prog Try.f25 Q Exit.ret { tmps := tm, defers := [] } W := by
  have q0 : W.cell? ⟨R, 0, none⟩ = _ := hR.cell 0
  have q1 : W.cell? ⟨R, 1, none⟩ = _ := hR.cell 1
  exact bodyPost_ret (v := .tuple #[.agg #[.slice A1 n1 c1, .slice A2 n2 c2], .int .i64 e0]) (by simp [results, Try.results25, go_sem, h2, h3, q0, q1]) rfl h
theorem bk_nil12 (w : World) : BkIn w none 0 0 [] none 0 0 [] := ⟨Reads.none_, by simp, Reads.none_, by simp, ⟨Nat.le_refl _, by simp⟩, ⟨Nat.le_refl _, by simp⟩⟩
theorem BkIn.far {w : World} {A B : Option Addr} {n c m d : Nat} {l : List Tb} {r : List Ix} (h : BkIn w A n c l B m d r) {R : Nat} (hA : ∀ ad, A = some ad → R < ad.block) (hl : ∀ t ∈ l, 0 < t.n → ∀ ad, t.A = some ad → R < ad.block) (hB : ∀ ad, B = some ad → R < ad.block)
    (hx : ∀ x ∈ r, (0 < x.n → ∀ ad, x.A = some ad → R < ad.block) ∧ (0 < x.m → ∀ ad, x.B = some ad → R < ad.block)) (j : Nat) (v : Value) : BkIn (w.setCell ⟨R, j, none⟩ v) A n c l B m d r := by
  have hs : w.heap.size ≤ (w.setCell ⟨R, j, none⟩ v).heap.size := by simp [World.setCell]
  have hh : ∀ ad : Addr, R < ad.block → (w.setCell ⟨R, j, none⟩ v).heap[ad.block]? = w.heap[ad.block]? := fun ad ha => Below.heap_setCell _ _ _ _ (fun e => by rw [e] at ha; exact absurd ha (Nat.lt_irrefl _))
  exact ⟨reads_stay h.hr hs fun _ ad ha => hh ad (hA ad ha), fun t ht => (h.hl t ht).stay hs fun hn ad ha => hh ad (hl t ht hn ad ha), reads_stay h.hx hs fun _ ad ha => hh ad (hB ad ha), fun x hx' => (h.hix x hx').stay hs (fun hn ad ha => hh ad ((hx x hx').1 hn ad ha)) (fun hn ad ha => hh ad ((hx x hx').2 hn ad ha)), h.hn, h.hm⟩
theorem RetGet12.no {w w' : World} {bs : List UInt8} (hb : Below w.heap.size w w') (h : ¬ ∃ b, gBook bs = some (b, []) ∧ MayB b) : RetGet12 w bs (.returned (.tuple #[.agg #[.slice none 0 0, .slice none 0 0], .int .i64 2])) w' :=
  ⟨none, 0, 0, [], none, 0, 0, [], 2, rfl, bk_nil12 w', hb, .inr ⟨rfl, rfl, rfl, h⟩⟩
set_option maxRecDepth 100000 in
set_option maxHeartbeats 16000000 in
theorem get_any12 (A : Option Addr) (n c : Nat) (bs : List UInt8) (w : World) (hr : Reads w w.heap.size 1 A n (bL bs)) (hnc : n ≤ c) :
    Calls Try.prog 25 #[.slice A n c] w (RetGet12 w bs) := by
  obtain ⟨i0, hi0, hz0, hs0, hy0⟩ := int_info8 Try.infoT
  obtain ⟨i1, hi1, hz1, hs1, hy1⟩ := int_info8 Try.infoX
  have HR : Hid (Rd (((w.alloc (.cells #[.slice none 0 0, .slice none 0 0] 25)).alloc (.cells #[.slice A n c, .bool false] 119)).alloc (.cells #[.slice none 0 0, .slice none 0 0] 25)) (w.heap.size + 1) w.heap.size bs false ∧ Below w.heap.size w (((w.alloc (.cells #[.slice none 0 0, .slice none 0 0] 25)).alloc (.cells #[.slice A n c, .bool false] 119)).alloc (.cells #[.slice none 0 0, .slice none 0 0] 25)) ∧ Blk (((w.alloc (.cells #[.slice none 0 0, .slice none 0 0] 25)).alloc (.cells #[.slice A n c, .bool false] 119)).alloc (.cells #[.slice none 0 0, .slice none 0 0] 25)) w.heap.size 25 #[.slice none 0 0, .slice none 0 0] ∧ Blk (((w.alloc (.cells #[.slice none 0 0, .slice none 0 0] 25)).alloc (.cells #[.slice A n c, .bool false] 119)).alloc (.cells #[.slice none 0 0, .slice none 0 0] 25)) (w.heap.size + 1 + 1) 25 #[.slice none 0 0, .slice none 0 0]) := by
    have hb : Below w.heap.size w (((w.alloc (.cells #[.slice none 0 0, .slice none 0 0] 25)).alloc (.cells #[.slice A n c, .bool false] 119)).alloc (.cells #[.slice none 0 0, .slice none 0 0] 25)) := ball (ball (ball (Below.refl _ _) _) _) _
    exact Lib.hid ⟨⟨A, n, c, (newAtI (by simp) : Blk ((w.alloc (.cells #[.slice none 0 0, .slice none 0 0] 25)).alloc (.cells #[.slice A n c, .bool false] 119)) (w.heap.size + 1) _ _).alloc _, hr.below hb, hnc, by omega⟩, hb, ((Blk.new _ _ _).alloc _).alloc _, newAtI (by simp)⟩
  have C1 := Lib.hid (count_rel (w.heap.size + 1) w.heap.size _ _ _ HR.out.1)
  clear hr
  go_enter Try.func25, Try.ntmps25
  go_wp2_with fail
  refine C1.out.mono ?_
  rintro e w3 ⟨b3, r3, s3, rfl, hrd3, hl3, hbt3⟩
  have b30 : (0 : Int) ≤ (b3.toNat : Int) := by omega
  have b31 : (b3.toNat : Int) ≤ 255 := by have := b3.toNat_lt; omega
  have R3 := HR.out.2.2.1.grown hbt3 (by simp)
  have T3 := HR.out.2.2.2.grown hbt3 (by simp)
  have L3 := low_but HR.out.2.1 hbt3 (by omega) (by simp; omega)
  have z3 := T3.lt
  have H3 := Lib.hid (And.intro hl3 (And.intro L3 (And.intro R3 (And.intro T3 hrd3))))
  clear hrd3 hl3 hbt3 R3 T3 L3 C1
  go_wp2
  go_loopw [11] (fun v wr => ∃ (k : Nat) (l : List Tb) (u : Value) (rk : List UInt8) (sk : Bool), k ≤ b3.toNat ∧ v = .int .i64 k ∧ Blk wr (w.heap.size + 1 + 1) 25 #[u, .slice none 0 0] ∧ wr.ownsRow (w.heap.size + 1 + 1 + 1) 62 5 u k (vTb l) ∧ l.length = k ∧ Rd wr (w.heap.size + 1) w.heap.size rk sk ∧ Rel (gMany gTab k) r3 s3 (l.map Tb.pt) rk sk ∧ Below w.heap.size w wr ∧ Blk wr w.heap.size 25 #[.slice none 0 0, .slice none 0 0] ∧ ∀ t ∈ l, TbOk wr wr.heap.size t ∧ Ap u (w.heap.size + 1) (w.heap.size + 1 + 1) t.A t.n) (fun v _ => b3.toNat - (intOf v).toNat)
  case atStart => exact ⟨0, [], _, r3, s3, by omega, rfl, H3.out.2.2.2.1, ⟨rfl, .inl ⟨rfl, rfl⟩⟩, rfl, H3.out.2.2.2.2, rel_many_nil _ _ _, H3.out.2.1, H3.out.2.2.1, by simp⟩
  case round =>
    obtain ⟨wo, rfl⟩ : ∃ wo : World, wo = wr := ⟨_, rfl⟩
    obtain ⟨k, l, u, rk, sk, hk, rfl, hT, own, hcl, hrd, hl, hbt, hR, hel⟩ := hrel
    have q0 : (0 : Int) ≤ (k : Int) := by omega
    have t0 : wo.cell? ⟨w.heap.size + 1 + 1, 0, none⟩ = some u := hT.cell 0
    have hzo := hT.lt
    by_cases hlt : k < b3.toNat
    · have q1 : (k : Int) < (b3.toNat : Int) := by omega
      have q2 : k < 255 := by omega
      have CK := Lib.hid (rtable2_any (w.heap.size + 1) w.heap.size _ _ wo.drew hrd.drew)
      have HQ := Lib.hid (And.intro hT (And.intro own (And.intro hcl (And.intro hl (And.intro hbt (And.intro hR hel))))))
      clear hT own hcl hrd hl hbt hR hel
      go_wp2_with fail
      go_region_law (first
        | (refine step_go rfl ?_; go_simp; go_at_call 49; refine CK.out.mono ?_; rintro e w4 ⟨q, r4, s4, rfl, hq4, hqA, hrd4, hl4, hbt4⟩; have B4 := but_trans (but_drew (but_refl wo (w.heap.size + 1))) hbt4; have T4 := HQ.out.1.grown B4 (by simp); have c4 : w4.cell? ⟨w.heap.size + 1 + 1, 0, none⟩ = some u := T4.cell 0; have z4 := T4.lt; have O4 := own_but HQ.out.2.1 B4 (by omega); have zz4 := B4.size; have H4 := Lib.hid (And.intro T4 (And.intro O4 (And.intro hrd4 (And.intro hl4 (And.intro B4 (And.intro hq4 hqA)))))); clear T4 O4 hrd4 hl4 hbt4 B4 hq4 hqA)
        | (refine step_pushR12 (news := [.string q.nm, .slice q.A q.n q.c, .int .u32 q.f, .int .i64 q.r, .int .i64 q.p]) rfl (.tmp 14) (.tmp 17) 22 rfl (w.heap.size + 1 + 1 + 1) 62 i0 _ 5 64 Try.underlying22 hi0 hz0 hs0 hy0 rfl (by decide) u k _ (by simp [Act.eval, Act.put]) H4.out.2.1 rfl _ (by simp [Act.eval, Act.put]) rfl rfl (by intro u hu; simp only [List.mem_cons, List.not_mem_nil, or_false] at hu; rcases hu with rfl | rfl | rfl | rfl | rfl <;> rfl) (by omega) (by omega) (by omega) ?_; intro v5 w5 own5 hg5 hB5; obtain ⟨A5, cc5, rfl, hcc5⟩ := own_form own5; have T5 := blk_far_own (H4.out.2.1.alloc _) (H4.out.1.alloc _) hg5 (by omega); have c5 : w5.cell? ⟨w.heap.size + 1 + 1, 0, none⟩ = some u := T5.cell 0; have f5 : w5.frozen? ⟨w.heap.size + 1 + 1, 0, none⟩ = false := T5.frozen 0; have z5 := T5.lt; have zz5 := hg5.size; have H5 := Lib.hid (And.intro own5 (And.intro hg5 (And.intro T5 hB5))); clear own5 hg5 T5 hB5))
      all_goals (try go_wp2)
      all_goals
        have O4a := H4.out.2.1.alloc (.cells #[.string q.nm, .slice q.A q.n q.c, .int .u32 q.f, .int .i64 q.r, .int .i64 q.p] 62)
        have hL5 : Below w.heap.size w w5 := low_own ((low_but HQ.out.2.2.2.2.1 H4.out.2.2.2.2.1 (by omega) (by omega)).alloc (by omega) (.cells #[.string q.nm, .slice q.A q.n q.c, .int .u32 q.f, .int .i64 q.r, .int .i64 q.p] 62)) O4a H5.out.2.1 (by omega) (by simp; omega)
        have hrd5 := ((H4.out.2.2.1.alloc (.cells #[.string q.nm, .slice q.A q.n q.c, .int .u32 q.f, .int .i64 q.r, .int .i64 q.p] 62)).own O4a H5.out.2.1 (by omega))
        have hR5 := blk_far_own O4a ((HQ.out.2.2.2.2.2.1.grown H4.out.2.2.2.2.1 (by simp)).alloc (.cells #[.string q.nm, .slice q.A q.n q.c, .int .u32 q.f, .int .i64 q.r, .int .i64 q.p] 62)) H5.out.2.1 (by omega)
        have hsz5 : w4.heap.size ≤ (w5.setCell ⟨w.heap.size + 1 + 1, 0, none⟩ (.slice A5 (k + 1) cc5)).heap.size := by simp [World.setCell] at zz5 ⊢; omega
        have hown5 : ∀ b, b < w4.heap.size → u.ownBlock ≠ some b → (Value.slice A5 (k + 1) cc5).ownBlock ≠ some b := fun b hb hu e' => by
          rcases H5.out.2.2.2 with h1 | h1
          · rw [h1] at e'; exact hu e'
          · rw [h1] at e'
            injection e' with e'
            omega
        exact ⟨⟨k + 1, l ++ [q], .slice A5 (k + 1) cc5, r4, s4, by omega, by go_num, H5.out.2.2.1.set_ 0 _, by rw [vTb_snoc]; exact own_farI H5.out.1 _ (by omega) _ _, by simp [HQ.out.2.2.1], hrd5.far (by simp) _, by rw [List.map_append]; exact HQ.out.2.2.2.1.snoc H4.out.2.2.2.1, hL5.setCell (by simp; omega) _, hR5.far (by simp; omega) _, fun t ht => by
          rcases List.mem_append.1 ht with h1 | h1
          · obtain ⟨g1, g2⟩ := HQ.out.2.2.2.2.2.2 t h1
            refine ⟨g1.stay (Nat.le_trans zz4 hsz5) (fun hn ad ha => ?_), fun hn ad ha => ?_⟩
            · obtain ⟨k1, k2, k3⟩ := g2 hn ad ha
              exact stayO H4.out.2.2.2.2.1 H5.out.2.1 (reads_lt g1.1.2.2.1 hn ad ha) k1 k3 (by omega)
            · obtain ⟨k1, k2, k3⟩ := g2 hn ad ha
              have k4 := reads_lt g1.1.2.2.1 hn ad ha
              exact ⟨k1, k2, hown5 _ (by omega) k3⟩
          · rw [List.mem_singleton] at h1
            subst h1
            have g1 := H4.out.2.2.2.2.2.1
            have gu : ∀ ad, t.A = some ad → u.ownBlock ≠ some ad.block := fun ad ha e' => by
              have h2 := (HQ.out.2.1.lt ad.block e').2
              have h3 := H4.out.2.2.2.2.2.2 ad ha
              change wo.heap.size ≤ ad.block at h3
              omega
            refine ⟨g1.stay hsz5 (fun hn ad ha => ?_), fun hn ad ha => ?_⟩
            · have h3 := H4.out.2.2.2.2.2.2 ad ha
              change wo.heap.size ≤ ad.block at h3
              exact stayN H5.out.2.1 (reads_lt g1.1.2.2.1 hn ad ha) (gu ad ha) (by omega)
            · have h3 := H4.out.2.2.2.2.2.2 ad ha
              change wo.heap.size ≤ ad.block at h3
              exact ⟨by omega, by omega, hown5 _ (reads_lt g1.1.2.2.1 hn ad ha) (gu ad ha)⟩⟩, by simp [intOf]; omega⟩
    · obtain rfl : b3.toNat = k := by omega
      obtain ⟨A1, c1, rfl, hc1⟩ := own_form own
      have C2 := Lib.hid (count_rel (w.heap.size + 1) w.heap.size _ _ wo hrd)
      have HQ := Lib.hid (And.intro hT (And.intro own (And.intro hcl (And.intro hl (And.intro hbt (And.intro hR hel))))))
      clear hT own hcl hrd hl hbt hR hel
      go_wp2_with fail
      refine C2.out.mono ?_
      rintro e w4 ⟨b4, r4, s4, rfl, hrd4, hl4, hbt4⟩
      have b40 : (0 : Int) ≤ (b4.toNat : Int) := by omega
      have b41 : (b4.toNat : Int) ≤ 255 := by have := b4.toNat_lt; omega
      have T4 := HQ.out.1.grown hbt4 (by simp)
      have c4 : w4.cell? ⟨w.heap.size + 1 + 1, 1, none⟩ = some (.slice none 0 0) := T4.cell 1
      have z4 := T4.lt
      have zz4 := hbt4.size
      have O4 := own_but HQ.out.2.1 hbt4 (by omega)
      have K4 : ∀ t ∈ l, TbOk w4 w4.heap.size t ∧ (0 < t.n → ∀ ad, t.A = some ad → ad.block ≠ w.heap.size + 1 ∧ w.heap.size + 1 + 1 < ad.block ∧ ad.block < w4.heap.size) := fun t ht => by
        obtain ⟨g1, g2⟩ := HQ.out.2.2.2.2.2.2 t ht
        refine ⟨g1.stay zz4 (fun hn ad ha => hbt4.block _ (reads_lt g1.1.2.2.1 hn ad ha) (by have := (g2 hn ad ha).1; simpa using this)), fun hn ad ha => ?_⟩
        have k4 := reads_lt g1.1.2.2.1 hn ad ha
        exact ⟨(g2 hn ad ha).1, (g2 hn ad ha).2.1, by omega⟩
      have H4 := Lib.hid (And.intro hl4 (And.intro T4 (And.intro O4 (And.intro (low_but HQ.out.2.2.2.2.1 hbt4 (by omega) (by omega)) (And.intro (HQ.out.2.2.2.2.2.1.grown hbt4 (by simp)) (And.intro hrd4 (And.intro K4 (O4.lt))))))))
      clear hl4 T4 O4 hbt4 hrd4 K4 C2 t0
      go_wp2
      go_loopw [23] (fun v wr => ∃ (k : Nat) (xs : List Ix) (u : Value) (rk : List UInt8) (sk : Bool), k ≤ b4.toNat ∧ v = .int .i64 k ∧ Blk wr (w.heap.size + 1 + 1) 25 #[.slice A1 b3.toNat c1, u] ∧ wr.ownsRow w4.heap.size 67 7 u k (vIx xs) ∧ xs.length = k ∧ wr.ownsRow (w.heap.size + 1 + 1 + 1) 62 5 (.slice A1 b3.toNat c1) b3.toNat (vTb l) ∧ Rd wr (w.heap.size + 1) w.heap.size rk sk ∧ Rel (gMany gIdx k) r4 s4 (xs.map Ix.px) rk sk ∧ Below w.heap.size w wr ∧ Blk wr w.heap.size 25 #[.slice none 0 0, .slice none 0 0] ∧ (∀ t ∈ l, TbOk wr wr.heap.size t) ∧ (∀ x ∈ xs, IxIn wr wr.heap.size x ∧ Ap u (w.heap.size + 1) (w.heap.size + 1 + 1) x.A x.n ∧ Ap u (w.heap.size + 1) (w.heap.size + 1 + 1) x.B x.m) ∧ w4.heap.size ≤ wr.heap.size) (fun v _ => b4.toNat - (intOf v).toNat)
      case atStart => exact ⟨0, [], _, r4, s4, by omega, rfl, H4.out.2.1, ⟨rfl, .inl ⟨rfl, rfl⟩⟩, rfl, H4.out.2.2.1, H4.out.2.2.2.2.2.1, rel_many_nil _ _ _, H4.out.2.2.2.1, H4.out.2.2.2.2.1, fun t ht => (H4.out.2.2.2.2.2.2.1 t ht).1, by simp, Nat.le_refl _⟩
      case round =>
        clear c4
        obtain ⟨w9, rfl⟩ : ∃ w9 : World, w9 = wo := ⟨_, rfl⟩
        obtain ⟨wo, rfl⟩ : ∃ wo : World, wo = wr := ⟨_, rfl⟩
        obtain ⟨k, xs, u, rk, sk, hk, rfl, hT, own, hcl, own1, hrd, hl, hbt, hR, hel, hex, hsz⟩ := hrel
        have q0 : (0 : Int) ≤ (k : Int) := by omega
        have t1 : wo.cell? ⟨w.heap.size + 1 + 1, 1, none⟩ = some u := hT.cell 1
        have hzo := hT.lt
        by_cases hlt : k < b4.toNat
        · have q1 : (k : Int) < (b4.toNat : Int) := by omega
          have q2 : k < 255 := by omega
          have CK := Lib.hid (rindex2_any (w.heap.size + 1) w.heap.size _ _ wo.drew hrd.drew)
          have HK := Lib.hid (And.intro hT (And.intro own (And.intro hcl (And.intro hl (And.intro hbt (And.intro hR (And.intro hel (And.intro hex own1))))))))
          clear hT own hcl hrd hl hbt hR hel hex own1
          go_wp2_with fail
          go_region_law (first
            | (refine step_go rfl ?_; go_simp; go_at_call 50; refine CK.out.mono ?_; rintro e w6 ⟨q, r6, s6, rfl, hq6, hqA, hqB, hrd6, hl6, hbt6⟩; have B6 := but_trans (but_drew (but_refl wo (w.heap.size + 1))) hbt6; have T6 := HK.out.1.grown B6 (by simp); have c6 : w6.cell? ⟨w.heap.size + 1 + 1, 1, none⟩ = some u := T6.cell 1; have z6 := T6.lt; have O6 := own_but HK.out.2.1 B6 (by omega); have zz6 := B6.size; have H6 := Lib.hid (And.intro T6 (And.intro O6 (And.intro hrd6 (And.intro hl6 (And.intro B6 (And.intro hq6 (And.intro hqA hqB))))))); clear T6 O6 hrd6 hl6 hbt6 B6 hq6 hqA hqB)
            | (refine step_pushR12 (news := [.string q.nm, .int .i64 q.tb, .slice q.A q.n q.c, .int .u32 q.root, .int .i64 q.lv, .int .i64 q.hi, .slice q.B q.m q.e]) rfl (.tmp 26) (.tmp 29) 23 rfl w4.heap.size 67 i1 _ 7 96 Try.underlying23 hi1 hz1 hs1 hy1 rfl (by decide) u k _ (by simp [Act.eval, Act.put]) H6.out.2.1 rfl _ (by simp [Act.eval, Act.put]) rfl rfl (by intro u hu; simp only [List.mem_cons, List.not_mem_nil, or_false] at hu; rcases hu with rfl | rfl | rfl | rfl | rfl | rfl | rfl <;> rfl) (by omega) (by omega) (by omega) ?_; intro v5 w5 own5 hg5 hB5; obtain ⟨A5, cc5, rfl, hcc5⟩ := own_form own5; have T5 := blk_far_own (H6.out.2.1.alloc _) (H6.out.1.alloc _) hg5 (by omega); have c5 : w5.cell? ⟨w.heap.size + 1 + 1, 1, none⟩ = some u := T5.cell 1; have f5 : w5.frozen? ⟨w.heap.size + 1 + 1, 1, none⟩ = false := T5.frozen 1; have z5 := T5.lt; have zz5 := hg5.size; have H5 := Lib.hid (And.intro own5 (And.intro hg5 (And.intro T5 hB5))); clear own5 hg5 T5 hB5))
          all_goals (try go_wp2)
          all_goals
            have O6a := H6.out.2.1.alloc (.cells #[.string q.nm, .int .i64 q.tb, .slice q.A q.n q.c, .int .u32 q.root, .int .i64 q.lv, .int .i64 q.hi, .slice q.B q.m q.e] 67)
            have hL5 : Below w.heap.size w w5 := low_own ((low_but HK.out.2.2.2.2.1 H6.out.2.2.2.2.1 (by omega) (by omega)).alloc (by omega) (.cells #[.string q.nm, .int .i64 q.tb, .slice q.A q.n q.c, .int .u32 q.root, .int .i64 q.lv, .int .i64 q.hi, .slice q.B q.m q.e] 67)) O6a H5.out.2.1 (by omega) (by simp; omega)
            have hrd5 := ((H6.out.2.2.1.alloc (.cells #[.string q.nm, .int .i64 q.tb, .slice q.A q.n q.c, .int .u32 q.root, .int .i64 q.lv, .int .i64 q.hi, .slice q.B q.m q.e] 67)).own O6a H5.out.2.1 (by omega))
            have hR5 := blk_far_own O6a ((HK.out.2.2.2.2.2.1.grown H6.out.2.2.2.2.1 (by simp)).alloc (.cells #[.string q.nm, .int .i64 q.tb, .slice q.A q.n q.c, .int .u32 q.root, .int .i64 q.lv, .int .i64 q.hi, .slice q.B q.m q.e] 67)) H5.out.2.1 (by omega)
            have hsz5 : w6.heap.size ≤ (w5.setCell ⟨w.heap.size + 1 + 1, 1, none⟩ (.slice A5 (k + 1) cc5)).heap.size := by simp [World.setCell] at zz5 ⊢; omega
            have P5 := own_farI (kept_low ((own_but HK.out.2.2.2.2.2.2.2.2 H6.out.2.2.2.2.1 (by omega)).alloc (.cells #[.string q.nm, .int .i64 q.tb, .slice q.A q.n q.c, .int .u32 q.root, .int .i64 q.lv, .int .i64 q.hi, .slice q.B q.m q.e] 67)) H5.out.2.1 O6a (fun kk h9 => (H4.out.2.2.2.2.2.2.2 kk h9).2)) (w.heap.size + 1 + 1) (by omega) 1 (.slice A5 (k + 1) cc5)
            have hown5 : ∀ b, b < w6.heap.size → u.ownBlock ≠ some b → (Value.slice A5 (k + 1) cc5).ownBlock ≠ some b := fun b hb hu e' => by
              rcases H5.out.2.2.2 with h1 | h1
              · rw [h1] at e'; exact hu e'
              · rw [h1] at e'
                injection e' with e'
                omega
            have hnew : ∀ (AA : Option Addr) (nn : Nat) (zs : List Value), Reads w6 w6.heap.size 1 AA nn zs → (∀ ad, AA = some ad → wo.drew.heap.size ≤ ad.block) → (0 < nn → ∀ ad, AA = some ad → (w5.setCell ⟨w.heap.size + 1 + 1, 1, none⟩ (.slice A5 (k + 1) cc5)).heap[ad.block]? = w6.heap[ad.block]?) ∧ Ap (.slice A5 (k + 1) cc5) (w.heap.size + 1) (w.heap.size + 1 + 1) AA nn := fun AA nn zs h1 h2 => by
              have gu : ∀ ad, AA = some ad → u.ownBlock ≠ some ad.block := fun ad ha e' => by
                have h4 := (HK.out.2.1.lt ad.block e').2
                have h3 := h2 ad ha
                change wo.heap.size ≤ ad.block at h3
                omega
              refine ⟨fun hn ad ha => ?_, fun hn ad ha => ?_⟩
              · have h3 := h2 ad ha
                change wo.heap.size ≤ ad.block at h3
                exact stayN H5.out.2.1 (reads_lt h1 hn ad ha) (gu ad ha) (by omega)
              · have h3 := h2 ad ha
                change wo.heap.size ≤ ad.block at h3
                exact ⟨by omega, by omega, hown5 _ (reads_lt h1 hn ad ha) (gu ad ha)⟩
            have hold : ∀ (AA : Option Addr) (nn : Nat) (zs : List Value), Reads wo wo.heap.size 1 AA nn zs → Ap u (w.heap.size + 1) (w.heap.size + 1 + 1) AA nn → (0 < nn → ∀ ad, AA = some ad → (w5.setCell ⟨w.heap.size + 1 + 1, 1, none⟩ (.slice A5 (k + 1) cc5)).heap[ad.block]? = wo.heap[ad.block]?) ∧ Ap (.slice A5 (k + 1) cc5) (w.heap.size + 1) (w.heap.size + 1 + 1) AA nn := fun AA nn zs h1 h2 => by
              refine ⟨fun hn ad ha => ?_, fun hn ad ha => ?_⟩
              · obtain ⟨k1, k2, k3⟩ := h2 hn ad ha
                exact stayO H6.out.2.2.2.2.1 H5.out.2.1 (reads_lt h1 hn ad ha) k1 k3 (by omega)
              · obtain ⟨k1, k2, k3⟩ := h2 hn ad ha
                have k4 := reads_lt h1 hn ad ha
                exact ⟨k1, k2, hown5 _ (by omega) k3⟩
            exact ⟨⟨k + 1, xs ++ [q], .slice A5 (k + 1) cc5, r6, s6, by omega, by go_num, H5.out.2.2.1.set_ 1 _, by rw [vIx_snoc]; exact own_farI H5.out.1 _ (by omega) _ _, by simp [HK.out.2.2.1], P5, hrd5.far (by simp) _, by rw [List.map_append]; exact HK.out.2.2.2.1.snoc H6.out.2.2.2.1, hL5.setCell (by simp; omega) _, hR5.far (by simp; omega) _, fun t ht => by
              have g1 := HK.out.2.2.2.2.2.2.1 t ht
              have g2 := (H4.out.2.2.2.2.2.2.1 t ht).2
              refine g1.stay (Nat.le_trans zz6 hsz5) (fun hn ad ha => ?_)
              obtain ⟨k1, k2, k3⟩ := g2 hn ad ha
              exact stayO H6.out.2.2.2.2.1 H5.out.2.1 (reads_lt g1.1.2.2.1 hn ad ha) k1 (fun e' => by have := (HK.out.2.1.lt ad.block e').1; omega) (by omega), fun x hx => by
              rcases List.mem_append.1 hx with h1 | h1
              · obtain ⟨g1, g2, g3⟩ := HK.out.2.2.2.2.2.2.2.1 x h1
                have o1 := hold _ _ _ g1.2.1 g2
                have o2 := hold _ _ _ g1.2.2.1 g3
                exact ⟨g1.stay (Nat.le_trans zz6 hsz5) o1.1 o2.1, o1.2, o2.2⟩
              · rw [List.mem_singleton] at h1
                subst h1
                have g1 := H6.out.2.2.2.2.2.1
                have o1 := hnew _ _ _ g1.2.1 H6.out.2.2.2.2.2.2.1
                have o2 := hnew _ _ _ g1.2.2.1 H6.out.2.2.2.2.2.2.2
                exact ⟨g1.stay hsz5 o1.1 o2.1, o1.2, o2.2⟩, Nat.le_trans (Nat.le_trans hsz zz6) hsz5⟩, by simp [intOf]; omega⟩
        · obtain rfl : b4.toNat = k := by omega
          obtain ⟨A2, c2, rfl, hc2⟩ := own_form own
          obtain ⟨A3, m3, c3, hG, hrr, hmc, _⟩ := hrd
          have hm3 : rk.length = m3 := by have := hrr.1; rw [bL_len] at this; omega
          have BK : BkIn wo A1 b3.toNat c1 l A2 b4.toNat c2 xs := ⟨Reads.of_own own1, hel, Reads.of_own own, fun x hx => (hex x hx).1, ⟨hc1, own_cap12 own1⟩, ⟨hc2, own_cap12 own⟩⟩
          have HF : Hid ((∀ ad, A1 = some ad → w.heap.size < ad.block) ∧ (∀ t ∈ l, 0 < t.n → ∀ ad, t.A = some ad → w.heap.size < ad.block) ∧ (∀ ad, A2 = some ad → w.heap.size < ad.block) ∧ ∀ x ∈ xs, (0 < x.n → ∀ ad, x.A = some ad → w.heap.size < ad.block) ∧ (0 < x.m → ∀ ad, x.B = some ad → w.heap.size < ad.block)) := Lib.hid ⟨fun ad ha => by have := own_addr own1 ad ha; omega, fun t ht hn ad ha => by have := ((H4.out.2.2.2.2.2.2.1 t ht).2 hn ad ha).2.1; omega, fun ad ha => by have := own_addr own ad ha; omega, fun x hx => ⟨fun hn ad ha => by have := ((hex x hx).2.1 hn ad ha).2.1; omega, fun hn ad ha => by have := ((hex x hx).2.2 hn ad ha).2.1; omega⟩⟩
          have hBook := rel_book H3.out.1 HQ.out.2.2.2.1 H4.out.1 hl
          have hB := hBook.2 rfl
          have m30 : (0 : Int) ≤ (m3 : Int) := by omega
          have x0 : wo.cell? ⟨w.heap.size + 1, 0, none⟩ = some (.slice A3 m3 c3) := hG.cell 0
          have x1 : wo.cell? ⟨w.heap.size + 1, 1, none⟩ = some (.bool sk) := hG.cell 1
          have t0 : wo.cell? ⟨w.heap.size + 1 + 1, 0, none⟩ = some (.slice A1 b3.toNat c1) := hT.cell 0
          have y0 : wo.cell? ⟨w.heap.size, 0, none⟩ = some (.slice none 0 0) := hR.cell 0
          have y1 : wo.cell? ⟨w.heap.size, 1, none⟩ = some (.slice none 0 0) := hR.cell 1
          have g0 := hR.frozen 0
          have g1 := hR.frozen 1
          have zR := hR.lt
          have HZ := Lib.hid (And.intro hbt (And.intro hR (And.intro hT BK)))
          have NO : (sk = true ∨ 0 < m3) → ¬ ∃ b, gBook bs = some (b, []) ∧ MayB b := fun h => by
            rintro ⟨b, e1, _⟩
            rcases hB with ⟨e2, e3⟩ | ⟨e2, e3⟩
            · rw [e3] at e1; cases e1
            · rw [e3] at e1
              injection e1 with e1
              injection e1 with _ e4
              rcases h with h | h
              · rw [h] at e2; cases e2
              · rw [e4] at hm3; simp at hm3; omega
          have HNO := Lib.hid NO
          have HBO := Lib.hid hB
          have HM3 := Lib.hid hm3
          clear NO hB hBook own own1 hel hex hl hbt hR hT hG hrr BK hcl hm3
          cases sk with
          | true =>
            clear HBO
            go_wp2
            exact get_end ((HZ.out.2.1.set_ 0 (.slice none 0 0)).set_ 1 (.slice none 0 0)) (by simp) (by simp) (RetGet12.no ((HZ.out.1.setCell (Nat.le_refl _) _).setCell (Nat.le_refl _) _) (HNO.out (.inl (by first | rfl | trivial))))
          | false =>
            by_cases hm : 0 < m3
            · have hmI : (0 : Int) < (m3 : Int) := by omega
              clear HBO
              go_wp2
              exact get_end ((HZ.out.2.1.set_ 0 (.slice none 0 0)).set_ 1 (.slice none 0 0)) (by simp) (by simp) (RetGet12.no ((HZ.out.1.setCell (Nat.le_refl _) _).setCell (Nat.le_refl _) _) (HNO.out (.inr hm)))
            · obtain rfl : m3 = 0 := by omega
              have hrk : rk = [] := List.eq_nil_of_length_eq_zero HM3.out
              have hgb : gBook bs = some (pbk l xs, []) := by
                rcases HBO.out with ⟨e2, e3⟩ | ⟨e2, e3⟩
                · cases e2
                · rw [e3, hrk]; rfl
              have HGB := Lib.hid hgb
              have MY := Lib.hid (may_any12 A1 b3.toNat c1 l A2 b4.toNat c2 xs wo HZ.out.2.2.2)
              clear hrk hgb HBO HNO hm
              go_wp2_with fail
              refine MY.out.mono ?_
              rintro e w7 ⟨b, rfl, hbm, hb7⟩
              have R7 := HZ.out.2.1.below hb7 zR
              have T7 := HZ.out.2.2.1.below hb7 hzo
              have p0 : w7.cell? ⟨w.heap.size, 0, none⟩ = some (.slice none 0 0) := R7.cell 0
              have p1 : w7.cell? ⟨w.heap.size, 1, none⟩ = some (.slice none 0 0) := R7.cell 1
              have h0 := R7.frozen 0
              have h1 := R7.frozen 1
              have o0 : w7.cell? ⟨w.heap.size + 1 + 1, 0, none⟩ = some (.slice A1 b3.toNat c1) := T7.cell 0
              have o1 : w7.cell? ⟨w.heap.size + 1 + 1, 1, none⟩ = some (.slice A2 b4.toNat c2) := T7.cell 1
              have z7 := R7.lt
              have H7 := Lib.hid (And.intro hbm (And.intro (HZ.out.1.trans (hb7.mono (by omega))) (And.intro R7 (HZ.out.2.2.2.below hb7))))
              clear hbm hb7 R7 T7 y0 y1 g0 g1 x0 x1 t0 t1
              cases b with
              | false =>
                go_wp2
                refine get_end ((H7.out.2.2.1.set_ 0 (.slice none 0 0)).set_ 1 (.slice none 0 0)) (by simp) (by simp) (RetGet12.no ((H7.out.2.1.setCell (Nat.le_refl _) _).setCell (Nat.le_refl _) _) ?_)
                rintro ⟨b, e1, e2⟩
                rw [HGB.out] at e1
                injection e1 with e1
                injection e1 with e1 _
                subst e1
                exact absurd (H7.out.1.2 e2) (by decide)
              | true =>
                go_wp2
                refine get_end ((H7.out.2.2.1.set_ 0 (.slice A1 b3.toNat c1)).set_ 1 (.slice A2 b4.toNat c2)) (by simp) (by simp) ⟨A1, b3.toNat, c1, l, A2, b4.toNat, c2, xs, 0, rfl, ?_, (H7.out.2.1.setCell (Nat.le_refl _) _).setCell (Nat.le_refl _) _, .inl ⟨rfl, HGB.out, H7.out.1.1 (by first | rfl | trivial)⟩⟩
                exact (H7.out.2.2.2.far HF.out.1 HF.out.2.1 HF.out.2.2.1 HF.out.2.2.2 0 _).far HF.out.1 HF.out.2.1 HF.out.2.2.1 HF.out.2.2.2 1 _
end
end Go.Proofs.Ytjlpfhioacphkaa
/-
  The reference's reader: take, a number, a text.
-/
namespace Go.Proofs.Ytjlpfhioacphkaa
section
set_option linter.unusedSimpArgs false
set_option linter.unusedVariables false
open Go.RowKit

/-- The reference's reader: what is left, and whether something wasn't there. -/
def rdv (r : List UInt8) (sh : Bool) : Value := .agg #[.string (str r), .bool sh]
theorem take_end {W : World} {R : Nat} {tm : Array Value} {Q : Ending → World → Prop} {v : Value} {r : List UInt8} {sh : Bool} (hR : Blk W R 123 #[.string (str r), .bool sh])
    (h4 : tm[4]? = some v) (h5 : tm[5]? = some (.pointer (some ⟨R, 0, none⟩))) (h : Q (.returned (.tuple #[v, rdv r sh])) W) :
    bodyPost Try.prog Try.f70 Q Exit.ret { tmps := tm, defers := [] } W := by
  have q0 : W.cell? ⟨R, 0, none⟩ = _ := hR.cell 0
  have q1 : W.cell? ⟨R, 1, none⟩ = _ := hR.cell 1
  exact bodyPost_ret (v := .tuple #[v, rdv r sh]) (by simp [results, Try.results70, go_sem, h4, h5, q0, q1, rdv]) rfl h
theorem num_end {W : World} {R : Nat} {tm : Array Value} {Q : Ending → World → Prop} {v : Value} {r : List UInt8} {sh : Bool} (hR : Blk W R 123 #[.string (str r), .bool sh])
    (h4 : tm[4]? = some v) (h5 : tm[5]? = some (.pointer (some ⟨R, 0, none⟩))) (h : Q (.returned (.tuple #[v, rdv r sh])) W) :
    bodyPost Try.prog Try.f51 Q Exit.ret { tmps := tm, defers := [] } W := by
  have q0 : W.cell? ⟨R, 0, none⟩ = _ := hR.cell 0
  have q1 : W.cell? ⟨R, 1, none⟩ = _ := hR.cell 1
  exact bodyPost_ret (v := .tuple #[v, rdv r sh]) (by simp [results, Try.results51, go_sem, h4, h5, q0, q1, rdv]) rfl h
theorem text_end {W : World} {R : Nat} {tm : Array Value} {Q : Ending → World → Prop} {v : Value} {r : List UInt8} {sh : Bool} (hR : Blk W R 123 #[.string (str r), .bool sh])
    (h4 : tm[2]? = some v) (h5 : tm[3]? = some (.pointer (some ⟨R, 0, none⟩))) (h : Q (.returned (.tuple #[v, rdv r sh])) W) :
    bodyPost Try.prog Try.f71 Q Exit.ret { tmps := tm, defers := [] } W := by
  have q0 : W.cell? ⟨R, 0, none⟩ = _ := hR.cell 0
  have q1 : W.cell? ⟨R, 1, none⟩ = _ := hR.cell 1
  exact bodyPost_ret (v := .tuple #[v, rdv r sh]) (by simp [results, Try.results71, go_sem, h4, h5, q0, q1, rdv]) rfl h
theorem tk_nil (k : Nat) : tk [] k = List.replicate k 0 ∧ dr [] k = [] := by
  unfold tk dr
  cases k with
  | zero => simp
  | succ k => simp
set_option maxRecDepth 100000 in
set_option maxHeartbeats 2000000 in
theorem stake_any (r : List UInt8) (sh : Bool) (k : Nat) (w : World) (hsh : sh = true → r = []) (hk : k ≤ 100000) (hr : r.length ≤ maxLen) :
    Calls Try.prog 70 #[.agg #[.string (str r), .bool sh], .int .i64 k] w (RetB w (.tuple #[.string (str (tk r k)), rdv (dr r k) (sh || decide (r.length < k))])) := by
  have k0 : (0 : Int) ≤ (k : Int) := by omega
  have hz := str_size r
  by_cases hs : sh = true ∨ r.length < k
  · obtain ⟨i0, hi0, hz0, hs0, hy0⟩ := int_info8 Try.infoB
    have mk0 : ∀ W, (Instr.makeSlice 27 (.int .i64 (k : Int)) (.int .i64 (k : Int))).run Try.prog W = .ok (.slice (some ⟨W.heap.size, 0, none⟩) k k) (W.alloc (.cells (bV (List.replicate k 0)) 5)) := by
      intro W
      have h := run_make (P := Try.prog) W 27 5 i0 (.int .u8 0) Try.underlying27 hi0 hz0 .i64 .i64 k k (by omega) (by omega) (by rw [hy0]; omega) (by omega)
      rw [hs0] at h
      rw [← zeros_cells k]
      simp only [Int.toNat_natCast, Nat.mul_one] at h
      exact h
    clear hi0 hz0 hs0 hy0
    have htk : tk r k = List.replicate k 0 ∧ dr r k = [] := by
      rcases hs with h | h
      · rw [hsh h]; exact tk_nil k
      · unfold tk dr; rw [if_pos h, if_pos h]; exact ⟨rfl, rfl⟩
    have hb : (sh || decide (r.length < k)) = true := by
      rcases hs with h | h
      · rw [h]; rfl
      · rw [decide_eq_true h, Bool.or_true]
    have hRr : ∀ (W : World) (g : Nat), g = W.heap.size → (convert 27 9 (.slice (some ⟨g, 0, none⟩) k k)).run Try.prog (W.alloc (.cells (bV (List.replicate k 0)) 5)) = .ok (.string (str (List.replicate k 0))) (W.alloc (.cells (bV (List.replicate k 0)) 5)) := fun W g hg => by
      subst hg
      exact conv_reads (P := Try.prog) (reads_new W (bV (List.replicate k 0)) 5 (by rw [bV_toList]) (by rw [bL_len]; simp)) 27 5 9 Try.underlying27 Try.underlying5 Try.underlying9 k
    have cv := hRr ((w.alloc (.cells #[.string (str r), .bool sh] 123)).alloc (.cells #[.string ⟨#[]⟩, .bool false] 123)) (w.heap.size + 1 + 1) (by simp)
    rw [htk.1, htk.2, hb]
    have hsI : sh = false → ((str r).size : Int) < (k : Int) := fun h => by
      rcases hs with h' | h'
      · rw [h] at h'; cases h'
      · omega
    clear hRr htk hb hs hsh
    cases sh
    all_goals
      first | have hsJ := hsI rfl | skip
      clear hsI
      go_enter Try.func70, Try.ntmps70
      go_wp2
      exact take_end (R := w.heap.size + 1) (r := []) (sh := true) (by rw [show str [] = ⟨#[]⟩ from rfl]; with_reducible repeat (first | exact Blk.newAt12 (by simp) | refine Blk.alloc ?_ _)) (by simp) (by simp) ⟨rfl, (by with_reducible repeat (first | exact Below.refl _ _ | refine ball ?_ _))⟩
  · have hs0 : sh = false := by cases sh <;> simp_all
    have hkl : k ≤ r.length := by omega
    subst hs0
    have htk := tk_take hkl
    have hb : (false || decide (r.length < k)) = false := by rw [Bool.false_or]; exact decide_eq_false (by omega)
    have c1 := cut_hi (P := Try.prog) Try.underlying9 r (r.take k) .i64 (k : Int) k0 (by omega) (by rw [Int.toNat_natCast])
    have c2 := cut_lo (P := Try.prog) Try.underlying9 r (r.drop k) .i64 (k : Int) k0 (by omega) (by rw [Int.toNat_natCast])
    have hsI : (k : Int) ≤ ((str r).size : Int) := by omega
    have hsI2 : (k : Int) ≤ (r.length : Int) := by omega
    have hsN : ¬ r.length < k := by omega
    rw [htk.1, htk.2, hb]
    clear htk hb hs hsh
    go_enter Try.func70, Try.ntmps70
    go_wp2_with fail
    go_region
    go_wp2
    exact take_end (R := w.heap.size + 1) (r := r.drop k) (sh := false) (by with_reducible repeat (first | exact Blk.newAt12 (by simp) | refine Blk.drew ?_ | refine Blk.alloc ?_ _)) (by simp) (by simp) ⟨rfl, (by with_reducible repeat (first | exact Below.refl _ _ | refine Below.drew ?_ | refine ball ?_ _))⟩
theorem beVal7 {l : List UInt8} {k : Nat} (h : l.length = k) (hk : k ≤ 4) : ((beVal l : Nat) : Int) ≤ 4294967295 := by
  have := beVal_lt_of (l := l) (n := 4) (by omega)
  omega
set_option maxHeartbeats 2000000 in
theorem snum_any (r : List UInt8) (sh : Bool) (k : Nat) (w : World) (hsh : sh = true → r = []) (hk : k ≤ 4) (hr : r.length ≤ maxLen) :
    Calls Try.prog 51 #[.agg #[.string (str r), .bool sh], .int .i64 k] w (RetB w (.tuple #[.int .i64 (beVal (tk r k)), rdv (dr r k) (sh || decide (r.length < k))])) := by
  have ST := Lib.hid fun W => stake_any r sh k W hsh (by omega) hr
  have VA := Lib.hid fun W => dval_any12 (tk r k) (by rw [tk_len]; omega) W
  have hv := beVal7 (tk_len r k) hk
  have hv0 : (0 : Int) ≤ (beVal (tk r k) : Nat) := by omega
  have hwr : IntKind.i64.wrap ((beVal (tk r k) : Nat) : Int) = ((beVal (tk r k) : Nat) : Int) := by rw [IntKind.wrap_i64]; omega
  obtain ⟨U, hU⟩ : ∃ U, beVal (tk r k) = U := ⟨_, rfl⟩
  obtain ⟨t, ht⟩ : ∃ t, tk r k = t := ⟨_, rfl⟩
  obtain ⟨q, hq⟩ : ∃ q, dr r k = q := ⟨_, rfl⟩
  obtain ⟨b, hb⟩ : ∃ b, (sh || decide (r.length < k)) = b := ⟨_, rfl⟩
  rw [hU] at VA hv hv0 hwr ⊢
  rw [ht] at VA ST
  rw [hq, hb] at ST ⊢
  clear hU ht hq hb hsh hk hr
  go_enter Try.func51, Try.ntmps51
  go_wp2_with fail
  refine (ST.out _).mono ?_
  rintro e w1 ⟨rfl, hb1⟩
  unfold rdv
  have B5 : Blk w1 (w.heap.size + 1) 123 #[.string ⟨#[]⟩, .bool false] := (Blk.newAt12 (by simp)).below hb1 (by simp)
  have hb0 : Below w.heap.size w w1 := bto0 (ball (ball (Below.refl _ _) _) _) hb1
  go_wp2_with fail
  have B7 : Blk (w1.alloc (.cells #[.string (str q), .bool b] 123)) w1.heap.size 123 #[.string (str q), .bool b] := Blk.newAt12 rfl
  have B6 := B5.alloc (.cells #[.string (str q), .bool b] 123)
  have hb2 := ball hb0 (.cells #[.string (str q), .bool b] 123)
  obtain ⟨W0, hW0⟩ : ∃ W0, w1.alloc (.cells #[.string (str q), .bool b] 123) = W0 := ⟨_, rfl⟩
  rw [hW0] at B7 B6 hb2 ⊢
  have c70 : W0.cell? ⟨w1.heap.size, 0, none⟩ = some (.string (str q)) := B7.cell 0
  have c71 : W0.cell? ⟨w1.heap.size, 1, none⟩ = some (.bool b) := B7.cell 1
  have c60 : W0.cell? ⟨w.heap.size + 1, 0, none⟩ = some (.string ⟨#[]⟩) := B6.cell 0
  have c61 : W0.cell? ⟨w.heap.size + 1, 1, none⟩ = some (.bool false) := B6.cell 1
  have f60 := B6.frozen 0
  have f61 := B6.frozen 1
  have HH := Lib.hid (And.intro B6 hb2)
  clear hW0 B7 B6 B5 hb2 hb0 hb1 ST
  go_region_with (go_at_call 31; (with_reducible refine (VA.out _).mono ?_); rintro e w' ⟨rfl, rfl⟩)
  all_goals
    go_wp2
    exact num_end (R := w.heap.size + 1) (v := .int .i64 (U : Int)) (r := q) (sh := b) ((HH.out.1.set_ 0 _).set_ 1 _).drew (by simp [hwr]) (by simp) ⟨rfl, ((HH.out.2.setCell (by simp) _).setCell (by simp) _).drew⟩
/-- A text: as many bytes as the first one says. -/
theorem stext_any (r : List UInt8) (sh : Bool) (b : UInt8) (hb : tk r 1 = [b]) (w : World) (hsh : sh = true → r = []) (hr : r.length ≤ maxLen) :
    Calls Try.prog 71 #[.agg #[.string (str r), .bool sh]] w (RetB w (.tuple #[.string (str (tk (dr r 1) b.toNat)), rdv (dr (dr r 1) b.toNat) ((sh || decide (r.length < 1)) || decide ((dr r 1).length < b.toNat))])) := by
  have hbv : beVal [b] = b.toNat := by simp [beVal]
  have NU := Lib.hid fun W => snum_any r sh 1 W hsh (by omega) hr
  have hsh2 : (sh || decide (r.length < 1)) = true → dr r 1 = [] := by
    intro h
    cases r with
    | nil => exact (tk_nil 1).2
    | cons x l => cases sh with
      | true => exact absurd (hsh rfl) (by simp)
      | false => simp at h
  have hr2 : (dr r 1).length ≤ maxLen := by unfold dr; split <;> simp <;> omega
  have ST := Lib.hid fun W => stake_any (dr r 1) (sh || decide (r.length < 1)) b.toNat W hsh2 (by have := b.toNat_lt; omega) hr2
  rw [hb, hbv] at NU
  obtain ⟨t, ht⟩ : ∃ t, tk (dr r 1) b.toNat = t := ⟨_, rfl⟩
  obtain ⟨q, hq⟩ : ∃ q, dr (dr r 1) b.toNat = q := ⟨_, rfl⟩
  obtain ⟨s1, hs1⟩ : ∃ s1, (sh || decide (r.length < 1)) = s1 := ⟨_, rfl⟩
  obtain ⟨s2, hs2⟩ : ∃ s2, (s1 || decide ((dr r 1).length < b.toNat)) = s2 := ⟨_, rfl⟩
  rw [hs1, hs2, ht, hq] at ST
  rw [hs1] at NU
  rw [hs1, hs2, ht, hq]
  obtain ⟨q1, hq1⟩ : ∃ q1, dr r 1 = q1 := ⟨_, rfl⟩
  rw [hq1] at ST NU
  clear hsh2 hr2 ht hq hs1 hs2 hq1 hsh hb hbv hr
  unfold rdv at NU ST
  have n0 : (0 : Int) ≤ (b.toNat : Int) := by omega
  go_enter Try.func71, Try.ntmps71
  go_wp2_with fail
  refine (NU.out _).mono ?_
  rintro e w1 ⟨rfl, hb1⟩
  have B5 : Blk w1 (w.heap.size + 1) 123 #[.string ⟨#[]⟩, .bool false] := (Blk.newAt12 (by simp)).below hb1 (by simp)
  have hb0 : Below w.heap.size w w1 := bto0 (ball (ball (Below.refl _ _) _) _) hb1
  go_wp2_with fail
  refine (ST.out _).mono ?_
  rintro e w2 ⟨rfl, hb2⟩
  have B6 := (B5.alloc (.cells #[.string (str q1), .bool s1] 123)).below hb2 (by have := B5.lt; simp; omega)
  have hbw : Below w.heap.size w w2 := bto0 (ball hb0 _) hb2
  have c60 : w2.cell? ⟨w.heap.size + 1, 0, none⟩ = some (.string ⟨#[]⟩) := B6.cell 0
  have c61 : w2.cell? ⟨w.heap.size + 1, 1, none⟩ = some (.bool false) := B6.cell 1
  have f60 := B6.frozen 0
  have f61 := B6.frozen 1
  have HH := Lib.hid (And.intro B6 hbw)
  clear B6 B5 hbw hb0 hb1 hb2 NU ST
  go_wp2
  exact text_end (R := w.heap.size + 1) (v := .string (str t)) (r := q) (sh := s2) ((HH.out.1.set_ 0 _).set_ 1 _) (by simp) (by simp) ⟨rfl, (HH.out.2.setCell (by simp) _).setCell (by simp) _⟩
end
end Go.Proofs.Ytjlpfhioacphkaa
/-
  The reference's reader, by what is read: a byte, four bytes, a text.
-/
namespace Go.Proofs.Ytjlpfhioacphkaa
section
set_option linter.unusedSimpArgs false
set_option linter.unusedVariables false
open Go.RowKit

/-- A state of the reference's reader: short, nothing is left. -/
def St (r : List UInt8) (sh : Bool) : Prop := (sh = true → r = []) ∧ r.length ≤ maxLen
theorem St.dr {r : List UInt8} {sh : Bool} (h : St r sh) (k : Nat) : St (dr r k) (sh || decide (r.length < k)) := by
  refine ⟨fun e => ?_, ?_⟩
  · unfold Go.Proofs.Ytjlpfhioacphkaa.dr
    split
    · rfl
    · rename_i hk
      cases sh with
      | true => rw [h.1 rfl]; simp
      | false => simp [hk] at e
  · have := h.2
    unfold Go.Proofs.Ytjlpfhioacphkaa.dr
    split
    · simp
    · rw [List.length_drop]; omega
def RetRS12 (w : World) (r : List UInt8) (sh : Bool) (e : Ending) (w' : World) : Prop :=
  ∃ (s : ByteArray) (r' : List UInt8) (sh' : Bool), e = .returned (.tuple #[.string s, .agg #[.string (str r'), .bool sh']]) ∧ s.size ≤ 255 ∧ St r' sh' ∧ Rel gText r sh s.data.toList r' sh' ∧ Below w.heap.size w w'
def RetRC (w : World) (r : List UInt8) (sh : Bool) (e : Ending) (w' : World) : Prop :=
  ∃ (b : UInt8) (r' : List UInt8) (sh' : Bool), e = .returned (.tuple #[.int .i64 (b.toNat : Int), .agg #[.string (str r'), .bool sh']]) ∧ St r' sh' ∧ Rel gOne r sh b.toNat r' sh' ∧ Below w.heap.size w w'
def RetRU (w : World) (r : List UInt8) (sh : Bool) (e : Ending) (w' : World) : Prop :=
  ∃ (U : Nat) (r' : List UInt8) (sh' : Bool), e = .returned (.tuple #[.int .i64 (U : Int), .agg #[.string (str r'), .bool sh']]) ∧ U < 4294967296 ∧ St r' sh' ∧ Rel gFour r sh U r' sh' ∧ Below w.heap.size w w'
theorem rs_text (r : List UInt8) (sh : Bool) (w : World) (h : St r sh) : Calls Try.prog 71 #[.agg #[.string (str r), .bool sh]] w (RetRS12 w r sh) := by
  obtain ⟨b, hb⟩ := one_of (tk_len r 1)
  exact (stext_any r sh b hb w h.1 h.2).mono fun e w' ⟨he, hw⟩ => ⟨_, _, _, he, by rw [str_size, tk_len]; have := b.toNat_lt; omega, (h.dr 1).dr b.toNat, by rw [str_data]; exact rel_text hb, hw⟩
theorem rs_one (r : List UInt8) (sh : Bool) (w : World) (h : St r sh) : Calls Try.prog 51 #[.agg #[.string (str r), .bool sh], .int .i64 1] w (RetRC w r sh) := by
  obtain ⟨b, hb⟩ := one_of (tk_len r 1)
  have hbv : beVal [b] = b.toNat := by simp [beVal]
  exact (snum_any r sh 1 w h.1 (by omega) h.2).mono fun e w' ⟨he, hw⟩ => ⟨b, _, _, by rw [he, hb, hbv]; rfl, h.dr 1, rel_one hb, hw⟩
theorem rs_four (r : List UInt8) (sh : Bool) (w : World) (h : St r sh) : Calls Try.prog 51 #[.agg #[.string (str r), .bool sh], .int .i64 4] w (RetRU w r sh) :=
  (snum_any r sh 4 w h.1 (by omega) h.2).mono fun e w' ⟨he, hw⟩ => ⟨_, _, _, he, by have := beVal_lt (tk r 4); rw [tk_len] at this; exact this, h.dr 4, rel_four r sh, hw⟩
end
end Go.Proofs.Ytjlpfhioacphkaa
/-
  The reference's table.
-/
namespace Go.Proofs.Ytjlpfhioacphkaa
section
set_option linter.unusedSimpArgs false
set_option linter.unusedVariables false
open Go.RowKit

theorem gMany_none {α : Type} {g : List UInt8 → Got α} {l : List UInt8} {i n : Nat} (h : gMany g i l = none) (hn : i ≤ n) : gMany g n l = none := by
  induction n with
  | zero => obtain rfl : i = 0 := by omega
            exact h
  | succ n ih =>
    by_cases hi : i ≤ n
    · rw [gMany_snoc, ih hi]
    · obtain rfl : i = n + 1 := by omega
      exact h
/-- A loop that ends where the reader is short: it is as if it had gone on. -/
theorem rel_short {α : Type} {g : List UInt8 → Got α} {r r' : List UInt8} {sh : Bool} {i n : Nat} {a b : List α} (h : Rel (gMany g i) r sh a r' true) (hn : i ≤ n) : Rel (gMany g n) r sh b r' true := by
  refine ⟨fun _ => rfl, fun hs => .inl ⟨rfl, ?_⟩⟩
  rcases h.2 hs with ⟨_, h2⟩ | ⟨h1, _⟩
  · exact gMany_none h2 hn
  · cases h1
theorem own_belowR {w w' : World} {base : Nat} {e : TypeId} {size n : Nat} {v : Value} {xs : List Value} (h : w.ownsRow base e size v n xs) (hb : Below w.heap.size w w') : w'.ownsRow base e size v n xs :=
  World.ownsRow.kept h (row := none) ⟨hb.os, hb.tape, hb.output, hb.size, fun i hi _ => hb.block i hi⟩ (by cases h' : v.ownBlock <;> simp)
theorem wpList_pushR12 {P : Program} {w : World} {ops : Array Oper} {rest : List Oper} {o : Oper} {a : Act} {Q : Exit → Act → World → Prop} {news : List Value} {arr : Array Value} (hgd : o.guard = none) (s x : Operand) (t : TypeId)
    (ho : o.op = .call { callee := .builtin .append, args := #[s, x], argTypes := #[t, t] })
    (base : Nat) (e : TypeId) (i : TypeInfo) (z : Value) (size bytes : Nat) (ht : P.underlying t = some (.slice e)) (hi : P.info? e = some i) (hz : i.zero = some z)
    (hsize : i.size = size) (hby : i.bytes = bytes) (hzs : z.cells.size = size) (hsz : 0 < size)
    (v : Value) (n : Nat) (xs : List Value) (hs : a.eval s = v) (hown : w.ownsRow base e size v n xs)
    (harr : arr = news.toArray) (g : Nat) (hx : a.eval x = .slice (some ⟨g, 0, none⟩) 1 1) (hg : g = w.heap.size) (hl : news.length = size) (h1 : ∀ u ∈ news, u.oneCell' = true)
    (h63 : n + 1 ≤ 1000000000) (hbytes : bytes ≤ 10000) (hbase : base ≤ w.heap.size)
    (h : ∀ v' w', w'.ownsRow base e size v' (n + 1) (xs ++ news) → (w.alloc (.cells arr e)).grownBy w' v.ownBlock → (v'.ownBlock = v.ownBlock ∨ v'.ownBlock = some (w.heap.size + 1)) → wpList P ops Q rest (a.put o.dst v') w') : wpList P ops Q (o :: rest) a (w.alloc (.cells arr e)) :=
  wpList_plain hgd fun _ hK => wp_pushR12 s x t ho base e i z size bytes ht hi hz hsize hby hzs hsz v n xs hs hown harr g hx hg hl h1 h63 hbytes hbase fun v' w' h2 h3 h4 => hK _ _ (h v' w' h2 h3 h4)
structure RTS (w0 : World) (t1 : Nat) (ty : TypeId) (xs : List Value) (tc : Array Value) (u : Value) (k : Nat) (r : List UInt8) (s : Bool) (W : World) : Prop where
  T : Blk W t1 ty tc
  own : W.ownsRow (t1 + 1) 64 4 u k xs
  G : Blk W w0.heap.size 123 #[.string (str r), .bool s]
  b : Below w0.heap.size w0 W
  A : Blk W (w0.heap.size + 1) 62 #[.string ⟨#[]⟩, .slice none 0 0, .int .u32 0, .int .i64 0, .int .i64 0]
  R : Blk W (w0.heap.size + 1 + 1) 123 #[.string ⟨#[]⟩, .bool false]
  lt : w0.heap.size + 1 + 1 < t1
section
variable {w0 W W' : World} {t1 k : Nat} {ty : TypeId} {xs : List Value} {tc : Array Value} {u : Value} {r : List UInt8} {s : Bool}
theorem RTS.call (h : RTS w0 t1 ty xs tc u k r s W) (hb : Below W.heap.size W W') : RTS w0 t1 ty xs tc u k r s W' :=
  ⟨h.T.below hb h.T.lt, own_belowR h.own hb, h.G.below hb h.G.lt, bto0 h.b hb, h.A.below hb h.A.lt, h.R.below hb h.R.lt, h.lt⟩
theorem RTS.setG (h : RTS w0 t1 ty xs tc u k r s W) (r' : List UInt8) (s' : Bool) : RTS w0 t1 ty xs tc u k r' s' ((W.setCell ⟨w0.heap.size, 0, none⟩ (.string (str r'))).setCell ⟨w0.heap.size, 1, none⟩ (.bool s')) := by
  have hlt := h.lt
  exact ⟨(h.T.far (by simp; omega) _).far (by simp; omega) _, own_farI (own_farI h.own _ (by omega) _ _) _ (by omega) _ _, (h.G.set_ 0 _).set_ 1 _, (h.b.setCell (Nat.le_refl _) _).setCell (Nat.le_refl _) _, (h.A.far (by simp) _).far (by simp) _, (h.R.far (by simp; omega) _).far (by simp; omega) _, hlt⟩
theorem RTS.setT (h : RTS w0 t1 ty xs tc u k r s W) (i : Nat) (v : Value) : RTS w0 t1 ty xs (tc.setIfInBounds i v) u k r s (W.setCell ⟨t1, i, none⟩ v) := by
  have hlt := h.lt
  exact ⟨h.T.set_ i v, own_farI h.own _ (by omega) _ _, h.G.far (by simp; omega) _, h.b.setCell (by show w0.heap.size ≤ t1; omega) _, h.A.far (by simp; omega) _, h.R.far (by simp; omega) _, hlt⟩
theorem RTS.push (h : RTS w0 t1 ty xs tc u k r s W) {new : List Value} {v : Value} {o : Obj} (ho : W'.ownsRow (t1 + 1) 64 4 v (k + 1) (xs ++ new)) (hg : (W.alloc o).grownBy W' u.ownBlock) : RTS w0 t1 ty (xs ++ new) tc v (k + 1) r s W' := by
  have hlt := h.lt
  have hT := h.T.lt
  have oa := World.ownsRow.alloc h.own o
  exact ⟨blk_far_own oa (h.T.alloc o) hg (by omega), ho, blk_far_own oa (h.G.alloc o) hg (by omega), bgrow (ball h.b o) hg oa (by omega) (by simp; omega), blk_far_own oa (h.A.alloc o) hg (by omega), blk_far_own oa (h.R.alloc o) hg (by omega), hlt⟩
end
section
variable {w0 W W' : World} {t1 k : Nat} {ty : TypeId} {xs : List Value} {tc : Array Value} {u : Value} {r : List UInt8} {s : Bool}
theorem RTS.fin1 (h : RTS w0 t1 ty xs tc u k r s W) (a0 a1 a2 a3 a4 b0 b1 : Value) :
    Blk (((((((W.setCell ⟨w0.heap.size + 1, 0, none⟩ a0).setCell ⟨w0.heap.size + 1, 1, none⟩ a1).setCell ⟨w0.heap.size + 1, 2, none⟩ a2).setCell ⟨w0.heap.size + 1, 3, none⟩ a3).setCell ⟨w0.heap.size + 1, 4, none⟩ a4).setCell ⟨w0.heap.size + 1 + 1, 0, none⟩ b0).setCell ⟨w0.heap.size + 1 + 1, 1, none⟩ b1) (w0.heap.size + 1) 62 #[a0, a1, a2, a3, a4] ∧
    Blk (((((((W.setCell ⟨w0.heap.size + 1, 0, none⟩ a0).setCell ⟨w0.heap.size + 1, 1, none⟩ a1).setCell ⟨w0.heap.size + 1, 2, none⟩ a2).setCell ⟨w0.heap.size + 1, 3, none⟩ a3).setCell ⟨w0.heap.size + 1, 4, none⟩ a4).setCell ⟨w0.heap.size + 1 + 1, 0, none⟩ b0).setCell ⟨w0.heap.size + 1 + 1, 1, none⟩ b1) (w0.heap.size + 1 + 1) 123 #[b0, b1] ∧
    (((((((W.setCell ⟨w0.heap.size + 1, 0, none⟩ a0).setCell ⟨w0.heap.size + 1, 1, none⟩ a1).setCell ⟨w0.heap.size + 1, 2, none⟩ a2).setCell ⟨w0.heap.size + 1, 3, none⟩ a3).setCell ⟨w0.heap.size + 1, 4, none⟩ a4).setCell ⟨w0.heap.size + 1 + 1, 0, none⟩ b0).setCell ⟨w0.heap.size + 1 + 1, 1, none⟩ b1).ownsRow (t1 + 1) 64 4 u k xs ∧
    Below w0.heap.size w0 (((((((W.setCell ⟨w0.heap.size + 1, 0, none⟩ a0).setCell ⟨w0.heap.size + 1, 1, none⟩ a1).setCell ⟨w0.heap.size + 1, 2, none⟩ a2).setCell ⟨w0.heap.size + 1, 3, none⟩ a3).setCell ⟨w0.heap.size + 1, 4, none⟩ a4).setCell ⟨w0.heap.size + 1 + 1, 0, none⟩ b0).setCell ⟨w0.heap.size + 1 + 1, 1, none⟩ b1) := by
  have hlt := h.lt
  refine ⟨((((((h.A.set_ 0 a0).set_ 1 a1).set_ 2 a2).set_ 3 a3).set_ 4 a4).far (by simp) _).far (by simp) _, (((((((h.R.far (by simp) a0).far (by simp) a1).far (by simp) a2).far (by simp) a3).far (by simp) a4).set_ 0 b0).set_ 1 b1), own_farI (own_farI (own_farI (own_farI (own_farI (own_farI (own_farI h.own _ (by omega) _ _) _ (by omega) _ _) _ (by omega) _ _) _ (by omega) _ _) _ (by omega) _ _) _ (by omega) _ _) _ (by omega) _ _, ?_⟩
  have b1 : w0.heap.size ≤ w0.heap.size + 1 := by omega
  have b2 : w0.heap.size ≤ w0.heap.size + 1 + 1 := by omega
  exact ((((((h.b.setCell b1 _).setCell b1 _).setCell b1 _).setCell b1 _).setCell b1 _).setCell b2 _).setCell b2 _
theorem RTS.fin2 (h : RTS w0 t1 ty xs tc u k r s W) (a0 a1 a2 a3 a4 b0 b1 : Value) :
    Blk (((((((W.setCell ⟨w0.heap.size + 1 + 1, 0, none⟩ b0).setCell ⟨w0.heap.size + 1 + 1, 1, none⟩ b1).setCell ⟨w0.heap.size + 1, 0, none⟩ a0).setCell ⟨w0.heap.size + 1, 1, none⟩ a1).setCell ⟨w0.heap.size + 1, 2, none⟩ a2).setCell ⟨w0.heap.size + 1, 3, none⟩ a3).setCell ⟨w0.heap.size + 1, 4, none⟩ a4) (w0.heap.size + 1) 62 #[a0, a1, a2, a3, a4] ∧
    Blk (((((((W.setCell ⟨w0.heap.size + 1 + 1, 0, none⟩ b0).setCell ⟨w0.heap.size + 1 + 1, 1, none⟩ b1).setCell ⟨w0.heap.size + 1, 0, none⟩ a0).setCell ⟨w0.heap.size + 1, 1, none⟩ a1).setCell ⟨w0.heap.size + 1, 2, none⟩ a2).setCell ⟨w0.heap.size + 1, 3, none⟩ a3).setCell ⟨w0.heap.size + 1, 4, none⟩ a4) (w0.heap.size + 1 + 1) 123 #[b0, b1] ∧
    (((((((W.setCell ⟨w0.heap.size + 1 + 1, 0, none⟩ b0).setCell ⟨w0.heap.size + 1 + 1, 1, none⟩ b1).setCell ⟨w0.heap.size + 1, 0, none⟩ a0).setCell ⟨w0.heap.size + 1, 1, none⟩ a1).setCell ⟨w0.heap.size + 1, 2, none⟩ a2).setCell ⟨w0.heap.size + 1, 3, none⟩ a3).setCell ⟨w0.heap.size + 1, 4, none⟩ a4).ownsRow (t1 + 1) 64 4 u k xs ∧
    Below w0.heap.size w0 (((((((W.setCell ⟨w0.heap.size + 1 + 1, 0, none⟩ b0).setCell ⟨w0.heap.size + 1 + 1, 1, none⟩ b1).setCell ⟨w0.heap.size + 1, 0, none⟩ a0).setCell ⟨w0.heap.size + 1, 1, none⟩ a1).setCell ⟨w0.heap.size + 1, 2, none⟩ a2).setCell ⟨w0.heap.size + 1, 3, none⟩ a3).setCell ⟨w0.heap.size + 1, 4, none⟩ a4) := by
  have hlt := h.lt
  refine ⟨(((((((h.A.far (by simp) b0).far (by simp) b1).set_ 0 a0).set_ 1 a1).set_ 2 a2).set_ 3 a3).set_ 4 a4), ((((((h.R.set_ 0 b0).set_ 1 b1).far (by simp) a0).far (by simp) a1).far (by simp) a2).far (by simp) a3).far (by simp) a4, own_farI (own_farI (own_farI (own_farI (own_farI (own_farI (own_farI h.own _ (by omega) _ _) _ (by omega) _ _) _ (by omega) _ _) _ (by omega) _ _) _ (by omega) _ _) _ (by omega) _ _) _ (by omega) _ _, ?_⟩
  have b1' : w0.heap.size ≤ w0.heap.size + 1 := by omega
  have b2 : w0.heap.size ≤ w0.heap.size + 1 + 1 := by omega
  exact ((((((h.b.setCell b2 _).setCell b2 _).setCell b1' _).setCell b1' _).setCell b1' _).setCell b1' _).setCell b1' _
end
theorem stable_end {W : World} {A R : Nat} {tm : Array Value} {Q : Ending → World → Prop} {a0 a1 a2 a3 a4 b0 b1 : Value} (hA : Blk W A 62 #[a0, a1, a2, a3, a4]) (hR : Blk W R 123 #[b0, b1])
    (h2 : tm[2]? = some (.pointer (some ⟨A, 0, none⟩))) (h3 : tm[3]? = some (.pointer (some ⟨R, 0, none⟩))) (h : Q (.returned (.tuple #[.agg #[a0, a1, a2, a3, a4], .agg #[b0, b1]])) W) :
    bodyPost Try.prog Try.f52 Q Exit.ret { tmps := tm, defers := [] } W := by
  have q0 : W.cell? ⟨A, 0, none⟩ = some a0 := hA.cell 0
  have q1 : W.cell? ⟨A, 1, none⟩ = some a1 := hA.cell 1
  have q2 : W.cell? ⟨A, 2, none⟩ = some a2 := hA.cell 2
  have q3 : W.cell? ⟨A, 3, none⟩ = some a3 := hA.cell 3
  have q4 : W.cell? ⟨A, 4, none⟩ = some a4 := hA.cell 4
  have p0 : W.cell? ⟨R, 0, none⟩ = some b0 := hR.cell 0
  have p1 : W.cell? ⟨R, 1, none⟩ = some b1 := hR.cell 1
  exact bodyPost_ret (v := .tuple #[.agg #[a0, a1, a2, a3, a4], .agg #[b0, b1]]) (by simp [results, Try.results52, go_sem, h2, h3, q0, q1, q2, q3, q4, p0, p1]) rfl h
def RetRT (w : World) (r : List UInt8) (sh : Bool) (e : Ending) (w' : World) : Prop :=
  ∃ (x : Tb) (r' : List UInt8) (sh' : Bool), e = .returned (.tuple #[x.agg, .agg #[.string (str r'), .bool sh']]) ∧ TbOk w' w'.heap.size x ∧ (∀ ad, x.A = some ad → w.heap.size ≤ ad.block) ∧ St r' sh' ∧ Rel gTab r sh x.pt r' sh' ∧ Below w.heap.size w w'
set_option maxRecDepth 100000 in
set_option maxHeartbeats 32000000 in
theorem stable_any (r : List UInt8) (sh : Bool) (w : World) (h : St r sh) :
    Calls Try.prog 52 #[.agg #[.string (str r), .bool sh]] w (RetRT w r sh) := by
  have T := Lib.hid fun W => rs_text r sh W h
  obtain ⟨i0, hi0, hz0, hs0, hy0⟩ := int_info8 Try.infoC
  have HW0 : Hid (Below w.heap.size w (((w.alloc (.cells #[.string (str r), .bool sh] 123)).alloc (.cells #[.string ⟨#[]⟩, .slice none 0 0, .int .u32 0, .int .i64 0, .int .i64 0] 62)).alloc (.cells #[.string ⟨#[]⟩, .bool false] 123)) ∧ Blk (((w.alloc (.cells #[.string (str r), .bool sh] 123)).alloc (.cells #[.string ⟨#[]⟩, .slice none 0 0, .int .u32 0, .int .i64 0, .int .i64 0] 62)).alloc (.cells #[.string ⟨#[]⟩, .bool false] 123)) w.heap.size 123 #[.string (str r), .bool sh] ∧ Blk (((w.alloc (.cells #[.string (str r), .bool sh] 123)).alloc (.cells #[.string ⟨#[]⟩, .slice none 0 0, .int .u32 0, .int .i64 0, .int .i64 0] 62)).alloc (.cells #[.string ⟨#[]⟩, .bool false] 123)) (w.heap.size + 1) 62 #[.string ⟨#[]⟩, .slice none 0 0, .int .u32 0, .int .i64 0, .int .i64 0] ∧ Blk (((w.alloc (.cells #[.string (str r), .bool sh] 123)).alloc (.cells #[.string ⟨#[]⟩, .slice none 0 0, .int .u32 0, .int .i64 0, .int .i64 0] 62)).alloc (.cells #[.string ⟨#[]⟩, .bool false] 123)) (w.heap.size + 1 + 1) 123 #[.string ⟨#[]⟩, .bool false]) := Lib.hid ⟨ball (ball (ball (Below.refl _ _) _) _) _, ((Blk.newAt12 rfl).alloc _).alloc _, (Blk.newAt12 (by simp)).alloc _, Blk.newAt12 (by simp)⟩
  clear h
  go_enter Try.func52, Try.ntmps52
  go_wp2_with fail
  refine (T.out _).mono ?_
  rintro e w1 ⟨nm, r1, s1, rfl, hnm, st1, hl1, hb1⟩
  have G1 := HW0.out.2.1.below hb1 HW0.out.2.1.lt
  have A1 := HW0.out.2.2.1.below hb1 HW0.out.2.2.1.lt
  have R1 := HW0.out.2.2.2.below hb1 HW0.out.2.2.2.lt
  have b1 := bto0 HW0.out.1 hb1
  have c10 : w1.cell? ⟨w.heap.size, 0, none⟩ = some (.string (str r)) := G1.cell 0
  have c11 : w1.cell? ⟨w.heap.size, 1, none⟩ = some (.bool sh) := G1.cell 1
  have f10 := G1.frozen 0
  have f11 := G1.frozen 1
  have N2 := Lib.hid fun W => rs_one r1 s1 W st1
  have z1 := R1.lt
  have hsz : ((w1.setCell ⟨w.heap.size, 0, none⟩ (.string (str r1))).setCell ⟨w.heap.size, 1, none⟩ (.bool s1)).heap.size = w1.heap.size := by simp [World.setCell]
  have GE := (((G1.set_ 0 (.string (str r1))).set_ 1 (.bool s1))).alloc (.cells #[.string nm, .slice none 0 0, .int .u32 0, .int .i64 0, .int .i64 0] 62)
  have AE := (((A1.far (p := ⟨w.heap.size, 0, none⟩) (by simp) (.string (str r1))).far (p := ⟨w.heap.size, 1, none⟩) (by simp) (.bool s1))).alloc (.cells #[.string nm, .slice none 0 0, .int .u32 0, .int .i64 0, .int .i64 0] 62)
  have RE := (((R1.far (p := ⟨w.heap.size, 0, none⟩) (by simp; omega) (.string (str r1))).far (p := ⟨w.heap.size, 1, none⟩) (by simp; omega) (.bool s1))).alloc (.cells #[.string nm, .slice none 0 0, .int .u32 0, .int .i64 0, .int .i64 0] 62)
  have TE : Blk (((w1.setCell ⟨w.heap.size, 0, none⟩ (.string (str r1))).setCell ⟨w.heap.size, 1, none⟩ (.bool s1)).alloc (.cells #[.string nm, .slice none 0 0, .int .u32 0, .int .i64 0, .int .i64 0] 62)) w1.heap.size 62 #[.string nm, .slice none 0 0, .int .u32 0, .int .i64 0, .int .i64 0] := Blk.newAt12 hsz.symm
  have bE := ball ((b1.setCell (show w.heap.size ≤ (⟨w.heap.size, 0, none⟩ : Addr).block by simp) (.string (str r1))).setCell (show w.heap.size ≤ (⟨w.heap.size, 1, none⟩ : Addr).block by simp) (.bool s1)) (.cells #[.string nm, .slice none 0 0, .int .u32 0, .int .i64 0, .int .i64 0] 62)
  have d10 : (((w1.setCell ⟨w.heap.size, 0, none⟩ (.string (str r1))).setCell ⟨w.heap.size, 1, none⟩ (.bool s1)).alloc (.cells #[.string nm, .slice none 0 0, .int .u32 0, .int .i64 0, .int .i64 0] 62)).cell? ⟨w.heap.size, 0, none⟩ = some (.string (str r1)) := GE.cell 0
  have d11 : (((w1.setCell ⟨w.heap.size, 0, none⟩ (.string (str r1))).setCell ⟨w.heap.size, 1, none⟩ (.bool s1)).alloc (.cells #[.string nm, .slice none 0 0, .int .u32 0, .int .i64 0, .int .i64 0] 62)).cell? ⟨w.heap.size, 1, none⟩ = some (.bool s1) := GE.cell 1
  have H1 := Lib.hid (And.intro hl1 (And.intro bE (And.intro GE (And.intro AE (And.intro RE TE)))))
  clear G1 A1 R1 b1 hl1 hb1 T HW0 st1 GE AE RE TE bE hsz
  go_wp2_with fail
  refine (N2.out _).mono ?_
  rintro e w2 ⟨b2, r2, s2, rfl, st2, hl2, hb2⟩
  clear c10 c11 f10 f11 d10 d11
  have b20 : (0 : Int) ≤ (b2.toNat : Int) := by omega
  have b21 : (b2.toNat : Int) ≤ 255 := by have := b2.toNat_lt; omega
  have G2 := H1.out.2.2.1.below hb2 H1.out.2.2.1.lt
  have A2 := H1.out.2.2.2.1.below hb2 H1.out.2.2.2.1.lt
  have R2 := H1.out.2.2.2.2.1.below hb2 H1.out.2.2.2.2.1.lt
  have T2 := H1.out.2.2.2.2.2.below hb2 H1.out.2.2.2.2.2.lt
  have b2w := bto0 H1.out.2.1 hb2
  have c20 : w2.cell? ⟨w.heap.size, 0, none⟩ = some (.string (str r1)) := G2.cell 0
  have c21 : w2.cell? ⟨w.heap.size, 1, none⟩ = some (.bool s1) := G2.cell 1
  have f20 := G2.frozen 0
  have f21 := G2.frozen 1
  have z2 := T2.lt
  have H2 := Lib.hid (And.intro hl2 (And.intro b2w (And.intro G2 (And.intro A2 (And.intro R2 (And.intro T2 st2))))))
  clear G2 A2 R2 T2 b2w hl2 hb2 N2 st2
  have hsz2 : ((w2.setCell ⟨w.heap.size, 0, none⟩ (.string (str r2))).setCell ⟨w.heap.size, 1, none⟩ (.bool s2)).heap.size = w2.heap.size := by simp [World.setCell]
  have z1w : w.heap.size < w1.heap.size := by omega
  go_wp2
  go_loopw [7] (fun v wr => ∃ (k : Nat) (cs : List Cl) (u : Value) (rk : List UInt8) (sk : Bool), k ≤ b2.toNat ∧ v = .int .i64 k ∧ RTS w w1.heap.size 62 (vC cs) #[.string nm, u, .int .u32 0, .int .i64 0, .int .i64 0] u k rk sk wr ∧ cs.length = k ∧ St rk sk ∧ Rel (gMany gCol k) r2 s2 (cs.map Cl.pc) rk sk ∧ ∀ c ∈ cs, c.ok) (fun v _ => b2.toNat - (intOf v).toNat)
  case atStart =>
    exact ⟨0, [], _, r2, s2, by omega, rfl, (RTS.mk H2.out.2.2.2.2.2.1 ⟨rfl, .inl ⟨rfl, rfl⟩⟩ H2.out.2.2.1 H2.out.2.1 H2.out.2.2.2.1 H2.out.2.2.2.2.1 z1).setG r2 s2, rfl, H2.out.2.2.2.2.2.2, rel_many_nil _ _ _, by simp⟩
  case round =>
    clear c20 c21 f20 f21
    obtain ⟨wo, rfl⟩ : ∃ wo : World, wo = wr := ⟨_, rfl⟩
    obtain ⟨k, cs, u, rk, sk, hk, rfl, ⟨hT, own, hG, hbw, hA, hR, hz1⟩, hcl, hst, hl, hok⟩ := hrel
    have q0 : (0 : Int) ≤ (k : Int) := by omega
    have g0 : wo.cell? ⟨w.heap.size, 0, none⟩ = some (.string (str rk)) := hG.cell 0
    have g1 : wo.cell? ⟨w.heap.size, 1, none⟩ = some (.bool sk) := hG.cell 1
    have hzo := hT.lt
    have T4 := Lib.hid fun W => rs_text rk sk W hst
    have HQ := Lib.hid (And.intro hT (And.intro own (And.intro hcl (And.intro hG (And.intro hst (And.intro hl (And.intro hbw (And.intro hA (And.intro hR hok)))))))))
    clear hT own hcl hG hst hl hbw hA hR hok
    by_cases hlt : k < b2.toNat
    · have q1 : (k : Int) < (b2.toNat : Int) := by omega
      have q2 : k < 255 := by omega
      cases sk
      · go_wp2_with fail
        refine (T4.out _).mono ?_
        rintro e w4 ⟨cn, r4, s4, rfl, hcn, st4, hl4, hb4⟩
        have z4 : wo.heap.size ≤ w4.heap.size := hb4.size
        have X4E : Blk (w4.alloc (.cells #[.string (str r4), .bool s4] 123)) w4.heap.size 123 #[.string (str r4), .bool s4] := Blk.newAt12 rfl
        have B4E := ball hb4 (.cells #[.string (str r4), .bool s4] 123)
        have N5 := Lib.hid fun W => rs_one r4 s4 W st4
        clear hb4 g0 g1
        go_wp2_with fail
        refine (N5.out _).mono ?_
        rintro e w5 ⟨b5, r5, s5, rfl, st5, hl5, hb5⟩
        have b50 : (0 : Int) ≤ (b5.toNat : Int) := by omega
        have b51 : (b5.toNat : Int) ≤ 255 := by have := b5.toNat_lt; omega
        have X5 := X4E.below hb5 X4E.lt
        have B5 := bto0 B4E hb5
        have e50 : w5.cell? ⟨w4.heap.size, 0, none⟩ = _ := X5.cell 0
        have e51 : w5.cell? ⟨w4.heap.size, 1, none⟩ = _ := X5.cell 1
        have f50 := X5.frozen 0
        have f51 := X5.frozen 1
        have X5E := (X5.set_ 0 (.string (str r5))).set_ 1 (.bool s5)
        have B5E := (B5.setCell (show wo.heap.size ≤ (⟨w4.heap.size, 0, none⟩ : Addr).block from z4) (.string (str r5))).setCell (show wo.heap.size ≤ (⟨w4.heap.size, 1, none⟩ : Addr).block from z4) (.bool s5)
        have d50 : ((w5.setCell ⟨w4.heap.size, 0, none⟩ (.string (str r5))).setCell ⟨w4.heap.size, 1, none⟩ (.bool s5)).cell? ⟨w4.heap.size, 0, none⟩ = some (.string (str r5)) := X5E.cell 0
        have d51 : ((w5.setCell ⟨w4.heap.size, 0, none⟩ (.string (str r5))).setCell ⟨w4.heap.size, 1, none⟩ (.bool s5)).cell? ⟨w4.heap.size, 1, none⟩ = some (.bool s5) := X5E.cell 1
        have N6 := Lib.hid fun W => rs_four r5 s5 W st5
        clear X4E B4E hb5 X5 B5 N5
        go_wp2_with fail
        refine (N6.out _).mono ?_
        rintro e w6 ⟨U6, r6, s6, rfl, hU6, st6, hl6, hb6⟩
        clear e50 e51 f50 f51 d50 d51
        have X6 := X5E.below hb6 X5E.lt
        have B6 := bto0 B5E hb6
        have e60 : w6.cell? ⟨w4.heap.size, 0, none⟩ = _ := X6.cell 0
        have e61 : w6.cell? ⟨w4.heap.size, 1, none⟩ = _ := X6.cell 1
        have f60 := X6.frozen 0
        have f61 := X6.frozen 1
        have X6E := (X6.set_ 0 (.string (str r6))).set_ 1 (.bool s6)
        have B6E := (B6.setCell (show wo.heap.size ≤ (⟨w4.heap.size, 0, none⟩ : Addr).block from z4) (.string (str r6))).setCell (show wo.heap.size ≤ (⟨w4.heap.size, 1, none⟩ : Addr).block from z4) (.bool s6)
        have d60 : ((w6.setCell ⟨w4.heap.size, 0, none⟩ (.string (str r6))).setCell ⟨w4.heap.size, 1, none⟩ (.bool s6)).cell? ⟨w4.heap.size, 0, none⟩ = some (.string (str r6)) := X6E.cell 0
        have d61 : ((w6.setCell ⟨w4.heap.size, 0, none⟩ (.string (str r6))).setCell ⟨w4.heap.size, 1, none⟩ (.bool s6)).cell? ⟨w4.heap.size, 1, none⟩ = some (.bool s6) := X6E.cell 1
        have N7 := Lib.hid fun W => rs_four r6 s6 W st6
        clear X5E B5E hb6 X6 B6 N6
        go_wp2_with fail
        refine (N7.out _).mono ?_
        rintro e w7 ⟨U7, r7, s7, rfl, hU7, st7, hl7, hb7⟩
        clear e60 e61 f60 f61 d60 d61
        have X7 := X6E.below hb7 X6E.lt
        have B7 := bto0 B6E hb7
        have e70 : w7.cell? ⟨w4.heap.size, 0, none⟩ = _ := X7.cell 0
        have e71 : w7.cell? ⟨w4.heap.size, 1, none⟩ = _ := X7.cell 1
        have f70 := X7.frozen 0
        have f71 := X7.frozen 1
        have X7E := (X7.set_ 0 (.string (str r7))).set_ 1 (.bool s7)
        have B7E := (B7.setCell (show wo.heap.size ≤ (⟨w4.heap.size, 0, none⟩ : Addr).block from z4) (.string (str r7))).setCell (show wo.heap.size ≤ (⟨w4.heap.size, 1, none⟩ : Addr).block from z4) (.bool s7)
        have d70 : ((w7.setCell ⟨w4.heap.size, 0, none⟩ (.string (str r7))).setCell ⟨w4.heap.size, 1, none⟩ (.bool s7)).cell? ⟨w4.heap.size, 0, none⟩ = some (.string (str r7)) := X7E.cell 0
        have d71 : ((w7.setCell ⟨w4.heap.size, 0, none⟩ (.string (str r7))).setCell ⟨w4.heap.size, 1, none⟩ (.bool s7)).cell? ⟨w4.heap.size, 1, none⟩ = some (.bool s7) := X7E.cell 1
        have G7 := HQ.out.2.2.2.1.below B7E HQ.out.2.2.2.1.lt
        have g70 := G7.cell 0
        have g71 := G7.cell 1
        have h70 := G7.frozen 0
        have h71 := G7.frozen 1
        have T7 := HQ.out.1.below B7 HQ.out.1.lt
        have t7 : w7.cell? ⟨w1.heap.size, 1, none⟩ = some u := T7.cell 1
        have T7E := HQ.out.1.below B7E HQ.out.1.lt
        have G7E := ((HQ.out.2.2.2.1.below B7E HQ.out.2.2.2.1.lt).set_ 0 (.string (str r7))).set_ 1 (.bool s7)
        have T8 := (T7E.far (p := ⟨w.heap.size, 0, none⟩) (by simp; omega) (.string (str r7))).far (p := ⟨w.heap.size, 1, none⟩) (by simp; omega) (.bool s7)
        have O8 := own_farI (own_farI (own_belowR HQ.out.2.1 B7E) w.heap.size (by omega) 0 (.string (str r7))) w.heap.size (by omega) 1 (.bool s7)
        have H7 := Lib.hid (And.intro T8 (And.intro O8 G7E))
        clear X6E B6E hb7 X7 N7 T7E T8 O8 G7E T7
        go_wp2_with (at_builtin; refine wpList_pushR12 (news := [.string cn, .int .u8 (b5.toNat : Int), .int .i64 (U6 : Int), .int .i64 (U7 : Int)]) rfl (.tmp 60) (.tmp 67) 60 rfl (w1.heap.size + 1) 64 i0 _ 4 40 Try.underlying60 hi0 hz0 hs0 hy0 rfl (by decide) u k _ (by first | rfl | (simp [Act.eval, Act.put]; done)) H7.out.2.1 rfl _ (by first | rfl | (simp [Act.eval, Act.put]; done)) (by simp [World.setCell]) rfl (by intro u hu; simp only [List.mem_cons, List.not_mem_nil, or_false] at hu; rcases hu with rfl | rfl | rfl | rfl <;> rfl) (by omega) (by omega) (by simp [World.setCell]; have := B7E.size; simp [World.setCell] at this; omega) ?_; intro v8 w8 own8 kp8 ob8; obtain ⟨A9, cc9, rfl, hcc9⟩ := own_form own8; have T9 := blk_far_own (H7.out.2.1.alloc (.cells #[.string cn, .int .u8 (b5.toNat : Int), .int .i64 (U6 : Int), .int .i64 (U7 : Int)] 64)) (H7.out.1.alloc _) kp8 (by omega); have c9 : w8.cell? ⟨w1.heap.size, 1, none⟩ = some u := T9.cell 1; have f9 := T9.frozen 1; have z9 := T9.lt; have H8 := Lib.hid (And.intro own8 (And.intro kp8 (And.intro ob8 T9))); clear own8 kp8 ob8 T9)
        have Q0 : RTS w w1.heap.size 62 (vC cs) #[.string nm, u, .int .u32 0, .int .i64 0, .int .i64 0] u k rk false wo := ⟨HQ.out.1, HQ.out.2.1, HQ.out.2.2.2.1, HQ.out.2.2.2.2.2.2.1, HQ.out.2.2.2.2.2.2.2.1, HQ.out.2.2.2.2.2.2.2.2.1, z1⟩
        have Q1 := (Q0.call B7E).setG r7 s7
        have Q2 := Q1.push (new := [.string cn, .int .u8 (b5.toNat : Int), .int .i64 (U6 : Int), .int .i64 (U7 : Int)]) H8.out.1 H8.out.2.1
        have hcol := rel_col hl4 hl5.int hl6.int hl7.int
        refine ⟨⟨k + 1, cs ++ [⟨cn, (b5.toNat : Int), (U6 : Int), (U7 : Int)⟩], .slice A9 (k + 1) cc9, r7, s7, by omega, by go_num, ?_, by simp [HQ.out.2.2.1], st7, by rw [List.map_append]; exact HQ.out.2.2.2.2.2.1.snoc hcol, fun c hc => ?_⟩, by simp [intOf]; omega⟩
        · rw [vC_snoc]; exact Q2.setT 1 (.slice A9 (k + 1) cc9)
        · rcases List.mem_append.1 hc with h1 | h1
          · exact HQ.out.2.2.2.2.2.2.2.2.2 c h1
          · rw [List.mem_singleton] at h1
            subst h1
            exact ⟨by (unfold maxLen; show cn.size ≤ _; omega), b50, b51⟩
      · have HX : Rel (gMany gCol b2.toNat) r2 s2 (cs.map Cl.pc) rk true := rel_short HQ.out.2.2.2.2.2.1 hk
        obtain ⟨A1, c1, rfl, hc1⟩ := own_form HQ.out.2.1
        have own1 := HQ.out.2.1
        have hcap := own_cap12 own1
        have hadr := own_addr own1
        have N1 := Lib.hid fun W => rs_four rk true W HQ.out.2.2.2.2.1
        have Q0 : RTS w w1.heap.size 62 (vC cs) #[.string nm, .slice A1 k c1, .int .u32 0, .int .i64 0, .int .i64 0] (.slice A1 k c1) k rk true wo := ⟨HQ.out.1, HQ.out.2.1, HQ.out.2.2.2.1, HQ.out.2.2.2.2.2.2.1, HQ.out.2.2.2.2.2.2.2.1, HQ.out.2.2.2.2.2.2.2.2.1, z1⟩
        have HC := Lib.hid (And.intro hc1 (And.intro hcap (And.intro hadr (And.intro HX HQ.out.2.2.2.2.2.2.2.2.2))))
        clear hc1 hcap hadr own1 T4 HX
        go_wp2_with fail
        refine (N1.out _).mono ?_
        rintro e w4 ⟨U1, r4, s4, rfl, hU1, st4, hl4, hb4⟩
        have P4 := Q0.call hb4
        have c40 : w4.cell? ⟨w.heap.size, 0, none⟩ = _ := P4.G.cell 0
        have c41 : w4.cell? ⟨w.heap.size, 1, none⟩ = _ := P4.G.cell 1
        have f40 := P4.G.frozen 0
        have f41 := P4.G.frozen 1
        have z4 := P4.G.lt
        have P4E := P4.setG r4 s4
        have d40 : ((w4.setCell ⟨w.heap.size, 0, none⟩ (.string (str r4))).setCell ⟨w.heap.size, 1, none⟩ (.bool s4)).cell? ⟨w.heap.size, 0, none⟩ = some (.string (str r4)) := P4E.G.cell 0
        have d41 : ((w4.setCell ⟨w.heap.size, 0, none⟩ (.string (str r4))).setCell ⟨w.heap.size, 1, none⟩ (.bool s4)).cell? ⟨w.heap.size, 1, none⟩ = some (.bool s4) := P4E.G.cell 1
        have N2 := Lib.hid fun W => rs_four r4 s4 W st4
        have u10 : (0 : Int) ≤ (U1 : Int) := by omega
        have u11 : (U1 : Int) ≤ 4294967295 := by omega
        have H4 := Lib.hid (And.intro hl4 P4E)
        clear P4 P4E hb4 st4 hl4 N1 Q0 g0 g1
        go_wp2_with fail
        refine (N2.out _).mono ?_
        rintro e w5 ⟨U2, r5, s5, rfl, hU2, st5, hl5, hb5⟩
        clear c40 c41 f40 f41 d40 d41
        have P5 := H4.out.2.call hb5
        have c50 : w5.cell? ⟨w.heap.size, 0, none⟩ = _ := P5.G.cell 0
        have c51 : w5.cell? ⟨w.heap.size, 1, none⟩ = _ := P5.G.cell 1
        have f50 := P5.G.frozen 0
        have f51 := P5.G.frozen 1
        have z5 := P5.G.lt
        have P5E := P5.setG r5 s5
        have d50 : ((w5.setCell ⟨w.heap.size, 0, none⟩ (.string (str r5))).setCell ⟨w.heap.size, 1, none⟩ (.bool s5)).cell? ⟨w.heap.size, 0, none⟩ = some (.string (str r5)) := P5E.G.cell 0
        have d51 : ((w5.setCell ⟨w.heap.size, 0, none⟩ (.string (str r5))).setCell ⟨w.heap.size, 1, none⟩ (.bool s5)).cell? ⟨w.heap.size, 1, none⟩ = some (.bool s5) := P5E.G.cell 1
        have N3 := Lib.hid fun W => rs_four r5 s5 W st5
        have H5 := Lib.hid (And.intro hl5 P5E)
        clear P5 P5E hb5 st5 hl5 N2
        go_wp2_with fail
        refine (N3.out _).mono ?_
        rintro e w6 ⟨U3, r6, s6, rfl, hU3, st6, hl6, hb6⟩
        clear c50 c51 f50 f51 d50 d51
        have P6 := H5.out.2.call hb6
        have c60 : w6.cell? ⟨w.heap.size, 0, none⟩ = _ := P6.G.cell 0
        have c61 : w6.cell? ⟨w.heap.size, 1, none⟩ = _ := P6.G.cell 1
        have f60 := P6.G.frozen 0
        have f61 := P6.G.frozen 1
        have z6 := P6.G.lt
        have P6E := P6.setG r6 s6
        obtain ⟨W7, hW7⟩ : ∃ W7, ((w6.setCell ⟨w.heap.size, 0, none⟩ (.string (str r6))).setCell ⟨w.heap.size, 1, none⟩ (.bool s6)) = W7 := ⟨_, rfl⟩
        rw [hW7] at P6E
        have t2 : W7.cell? ⟨w1.heap.size, 2, none⟩ = _ := P6E.T.cell 2
        have t3 : W7.cell? ⟨w1.heap.size, 3, none⟩ = _ := P6E.T.cell 3
        have t4 : W7.cell? ⟨w1.heap.size, 4, none⟩ = _ := P6E.T.cell 4
        have k2 : W7.frozen? ⟨w1.heap.size, 2, none⟩ = _ := P6E.T.frozen 2
        have k3 : W7.frozen? ⟨w1.heap.size, 3, none⟩ = _ := P6E.T.frozen 3
        have k4 : W7.frozen? ⟨w1.heap.size, 4, none⟩ = _ := P6E.T.frozen 4
        rw [← hW7] at t2 t3 t4 k2 k3 k4
        have P7 := ((P6E.setT 2 (.int .u32 (U1 : Int))).setT 3 (.int .i64 (U2 : Int))).setT 4 (.int .i64 (U3 : Int))
        rw [← hW7] at P7
        clear hW7 P6E
        have HN := rel_nums H4.out.1.int H5.out.1.int hl6.int
        have H7 := Lib.hid (And.intro P7 (And.intro HN st6))
        clear P6 P7 hb6 hl6 HN N3 st6
        go_wp2_with fail
        obtain ⟨W8, hW8⟩ : ∃ W8, (((((w6.setCell ⟨w.heap.size, 0, none⟩ (.string (str r6))).setCell ⟨w.heap.size, 1, none⟩ (.bool s6)).setCell ⟨w1.heap.size, 2, none⟩ (.int .u32 (U1 : Int))).setCell ⟨w1.heap.size, 3, none⟩ (.int .i64 (U2 : Int))).setCell ⟨w1.heap.size, 4, none⟩ (.int .i64 (U3 : Int))) = W8 := ⟨_, rfl⟩
        have P8 := H7.out.1
        rw [hW8] at P8
        rw [hW8]
        clear hW8 c60 c61 f60 f61 t2 t3 t4 k2 k3 k4
        have e0 : W8.cell? ⟨w1.heap.size, 0, none⟩ = some (.string nm) := P8.T.cell 0
        have e1 : W8.cell? ⟨w1.heap.size, 1, none⟩ = some (.slice A1 k c1) := P8.T.cell 1
        have e2 : W8.cell? ⟨w1.heap.size, 2, none⟩ = some (.int .u32 (U1 : Int)) := P8.T.cell 2
        have e3 : W8.cell? ⟨w1.heap.size, 3, none⟩ = some (.int .i64 (U2 : Int)) := P8.T.cell 3
        have e4 : W8.cell? ⟨w1.heap.size, 4, none⟩ = some (.int .i64 (U3 : Int)) := P8.T.cell 4
        have j0 : W8.cell? ⟨w.heap.size, 0, none⟩ = some (.string (str r6)) := P8.G.cell 0
        have j1 : W8.cell? ⟨w.heap.size, 1, none⟩ = some (.bool s6) := P8.G.cell 1
        have y0 : W8.cell? ⟨w.heap.size + 1, 0, none⟩ = some (.string ⟨#[]⟩) := P8.A.cell 0
        have y1 : W8.cell? ⟨w.heap.size + 1, 1, none⟩ = some (.slice none 0 0) := P8.A.cell 1
        have y2 : W8.cell? ⟨w.heap.size + 1, 2, none⟩ = some (.int .u32 0) := P8.A.cell 2
        have y3 : W8.cell? ⟨w.heap.size + 1, 3, none⟩ = some (.int .i64 0) := P8.A.cell 3
        have y4 : W8.cell? ⟨w.heap.size + 1, 4, none⟩ = some (.int .i64 0) := P8.A.cell 4
        have v0 := P8.A.frozen 0
        have v1 := P8.A.frozen 1
        have v2 := P8.A.frozen 2
        have v3 := P8.A.frozen 3
        have v4 := P8.A.frozen 4
        have o0 : W8.cell? ⟨w.heap.size + 1 + 1, 0, none⟩ = some (.string ⟨#[]⟩) := P8.R.cell 0
        have o1 : W8.cell? ⟨w.heap.size + 1 + 1, 1, none⟩ = some (.bool false) := P8.R.cell 1
        have q0' := P8.R.frozen 0
        have q1' := P8.R.frozen 1
        have z8 := P8.T.lt
        have H8 := Lib.hid (And.intro P8 P8.lt)
        clear P8
        go_region
        all_goals (try go_wp2)
        have F := H8.out.1.fin1 (.string nm) (.slice A1 k c1) (.int .u32 (U1 : Int)) (.int .i64 (U2 : Int)) (.int .i64 (U3 : Int)) (.string (str r6)) (.bool s6)
        obtain ⟨W9, hW9⟩ : ∃ W9, (((((((W8.setCell ⟨w.heap.size + 1, 0, none⟩ (.string nm)).setCell ⟨w.heap.size + 1, 1, none⟩ (.slice A1 k c1)).setCell ⟨w.heap.size + 1, 2, none⟩ (.int .u32 (U1 : Int))).setCell ⟨w.heap.size + 1, 3, none⟩ (.int .i64 (U2 : Int))).setCell ⟨w.heap.size + 1, 4, none⟩ (.int .i64 (U3 : Int))).setCell ⟨w.heap.size + 1 + 1, 0, none⟩ (.string (str r6))).setCell ⟨w.heap.size + 1 + 1, 1, none⟩ (.bool s6)) = W9 := ⟨_, rfl⟩
        rw [hW9] at F
        rw [hW9]
        clear hW9
        exact stable_end F.1.drew F.2.1.drew (by simp) (by simp) ⟨⟨nm, A1, k, c1, (U1 : Int), (U2 : Int), (U3 : Int), cs⟩, r6, s6, rfl, ⟨⟨by (unfold maxLen; show nm.size ≤ _; omega), ⟨HC.out.1, HC.out.2.1⟩, (Reads.of_own F.2.2.1).drew, HC.out.2.2.2.2⟩, u10, u11⟩, fun ad h => by have := HC.out.2.2.1 ad h; omega, H7.out.2.2, rel_tab H1.out.1 H2.out.1 HC.out.2.2.2.1 H7.out.2.1, F.2.2.2.drew⟩
    · have hkb : k = b2.toNat := by omega
      have e9 : decide ((k : Int) < (b2.toNat : Int)) = false := by simp; omega
      have HX : Rel (gMany gCol b2.toNat) r2 s2 (cs.map Cl.pc) rk sk := hkb ▸ HQ.out.2.2.2.2.2.1
      clear hkb
      obtain ⟨A1, c1, rfl, hc1⟩ := own_form HQ.out.2.1
      have own1 := HQ.out.2.1
      have hcap := own_cap12 own1
      have hadr := own_addr own1
      have N1 := Lib.hid fun W => rs_four rk sk W HQ.out.2.2.2.2.1
      have Q0 : RTS w w1.heap.size 62 (vC cs) #[.string nm, .slice A1 k c1, .int .u32 0, .int .i64 0, .int .i64 0] (.slice A1 k c1) k rk sk wo := ⟨HQ.out.1, HQ.out.2.1, HQ.out.2.2.2.1, HQ.out.2.2.2.2.2.2.1, HQ.out.2.2.2.2.2.2.2.1, HQ.out.2.2.2.2.2.2.2.2.1, z1⟩
      have HC := Lib.hid (And.intro hc1 (And.intro hcap (And.intro hadr (And.intro HX HQ.out.2.2.2.2.2.2.2.2.2))))
      clear hc1 hcap hadr own1 T4 HX
      go_wp2_with fail
      refine (N1.out _).mono ?_
      rintro e w4 ⟨U1, r4, s4, rfl, hU1, st4, hl4, hb4⟩
      have P4 := Q0.call hb4
      have c40 : w4.cell? ⟨w.heap.size, 0, none⟩ = _ := P4.G.cell 0
      have c41 : w4.cell? ⟨w.heap.size, 1, none⟩ = _ := P4.G.cell 1
      have f40 := P4.G.frozen 0
      have f41 := P4.G.frozen 1
      have z4 := P4.G.lt
      have P4E := P4.setG r4 s4
      have d40 : ((w4.setCell ⟨w.heap.size, 0, none⟩ (.string (str r4))).setCell ⟨w.heap.size, 1, none⟩ (.bool s4)).cell? ⟨w.heap.size, 0, none⟩ = some (.string (str r4)) := P4E.G.cell 0
      have d41 : ((w4.setCell ⟨w.heap.size, 0, none⟩ (.string (str r4))).setCell ⟨w.heap.size, 1, none⟩ (.bool s4)).cell? ⟨w.heap.size, 1, none⟩ = some (.bool s4) := P4E.G.cell 1
      have N2 := Lib.hid fun W => rs_four r4 s4 W st4
      have u10 : (0 : Int) ≤ (U1 : Int) := by omega
      have u11 : (U1 : Int) ≤ 4294967295 := by omega
      have H4 := Lib.hid (And.intro hl4 P4E)
      clear P4 P4E hb4 st4 hl4 N1 Q0 g0 g1
      go_wp2_with fail
      refine (N2.out _).mono ?_
      rintro e w5 ⟨U2, r5, s5, rfl, hU2, st5, hl5, hb5⟩
      clear c40 c41 f40 f41 d40 d41
      have P5 := H4.out.2.call hb5
      have c50 : w5.cell? ⟨w.heap.size, 0, none⟩ = _ := P5.G.cell 0
      have c51 : w5.cell? ⟨w.heap.size, 1, none⟩ = _ := P5.G.cell 1
      have f50 := P5.G.frozen 0
      have f51 := P5.G.frozen 1
      have z5 := P5.G.lt
      have P5E := P5.setG r5 s5
      have d50 : ((w5.setCell ⟨w.heap.size, 0, none⟩ (.string (str r5))).setCell ⟨w.heap.size, 1, none⟩ (.bool s5)).cell? ⟨w.heap.size, 0, none⟩ = some (.string (str r5)) := P5E.G.cell 0
      have d51 : ((w5.setCell ⟨w.heap.size, 0, none⟩ (.string (str r5))).setCell ⟨w.heap.size, 1, none⟩ (.bool s5)).cell? ⟨w.heap.size, 1, none⟩ = some (.bool s5) := P5E.G.cell 1
      have N3 := Lib.hid fun W => rs_four r5 s5 W st5
      have H5 := Lib.hid (And.intro hl5 P5E)
      clear P5 P5E hb5 st5 hl5 N2
      go_wp2_with fail
      refine (N3.out _).mono ?_
      rintro e w6 ⟨U3, r6, s6, rfl, hU3, st6, hl6, hb6⟩
      clear c50 c51 f50 f51 d50 d51
      have P6 := H5.out.2.call hb6
      have c60 : w6.cell? ⟨w.heap.size, 0, none⟩ = _ := P6.G.cell 0
      have c61 : w6.cell? ⟨w.heap.size, 1, none⟩ = _ := P6.G.cell 1
      have f60 := P6.G.frozen 0
      have f61 := P6.G.frozen 1
      have z6 := P6.G.lt
      have P6E := P6.setG r6 s6
      obtain ⟨W7, hW7⟩ : ∃ W7, ((w6.setCell ⟨w.heap.size, 0, none⟩ (.string (str r6))).setCell ⟨w.heap.size, 1, none⟩ (.bool s6)) = W7 := ⟨_, rfl⟩
      rw [hW7] at P6E
      have t2 : W7.cell? ⟨w1.heap.size, 2, none⟩ = _ := P6E.T.cell 2
      have t3 : W7.cell? ⟨w1.heap.size, 3, none⟩ = _ := P6E.T.cell 3
      have t4 : W7.cell? ⟨w1.heap.size, 4, none⟩ = _ := P6E.T.cell 4
      have k2 : W7.frozen? ⟨w1.heap.size, 2, none⟩ = _ := P6E.T.frozen 2
      have k3 : W7.frozen? ⟨w1.heap.size, 3, none⟩ = _ := P6E.T.frozen 3
      have k4 : W7.frozen? ⟨w1.heap.size, 4, none⟩ = _ := P6E.T.frozen 4
      rw [← hW7] at t2 t3 t4 k2 k3 k4
      have P7 := ((P6E.setT 2 (.int .u32 (U1 : Int))).setT 3 (.int .i64 (U2 : Int))).setT 4 (.int .i64 (U3 : Int))
      rw [← hW7] at P7
      clear hW7 P6E
      have HN := rel_nums H4.out.1.int H5.out.1.int hl6.int
      have H7 := Lib.hid (And.intro P7 (And.intro HN st6))
      clear P6 P7 hb6 hl6 HN N3 st6
      go_wp2_with fail
      obtain ⟨W8, hW8⟩ : ∃ W8, (((((w6.setCell ⟨w.heap.size, 0, none⟩ (.string (str r6))).setCell ⟨w.heap.size, 1, none⟩ (.bool s6)).setCell ⟨w1.heap.size, 2, none⟩ (.int .u32 (U1 : Int))).setCell ⟨w1.heap.size, 3, none⟩ (.int .i64 (U2 : Int))).setCell ⟨w1.heap.size, 4, none⟩ (.int .i64 (U3 : Int))) = W8 := ⟨_, rfl⟩
      have P8 := H7.out.1
      rw [hW8] at P8
      rw [hW8]
      clear hW8 c60 c61 f60 f61 t2 t3 t4 k2 k3 k4
      have e0 : W8.cell? ⟨w1.heap.size, 0, none⟩ = some (.string nm) := P8.T.cell 0
      have e1 : W8.cell? ⟨w1.heap.size, 1, none⟩ = some (.slice A1 k c1) := P8.T.cell 1
      have e2 : W8.cell? ⟨w1.heap.size, 2, none⟩ = some (.int .u32 (U1 : Int)) := P8.T.cell 2
      have e3 : W8.cell? ⟨w1.heap.size, 3, none⟩ = some (.int .i64 (U2 : Int)) := P8.T.cell 3
      have e4 : W8.cell? ⟨w1.heap.size, 4, none⟩ = some (.int .i64 (U3 : Int)) := P8.T.cell 4
      have j0 : W8.cell? ⟨w.heap.size, 0, none⟩ = some (.string (str r6)) := P8.G.cell 0
      have j1 : W8.cell? ⟨w.heap.size, 1, none⟩ = some (.bool s6) := P8.G.cell 1
      have y0 : W8.cell? ⟨w.heap.size + 1, 0, none⟩ = some (.string ⟨#[]⟩) := P8.A.cell 0
      have y1 : W8.cell? ⟨w.heap.size + 1, 1, none⟩ = some (.slice none 0 0) := P8.A.cell 1
      have y2 : W8.cell? ⟨w.heap.size + 1, 2, none⟩ = some (.int .u32 0) := P8.A.cell 2
      have y3 : W8.cell? ⟨w.heap.size + 1, 3, none⟩ = some (.int .i64 0) := P8.A.cell 3
      have y4 : W8.cell? ⟨w.heap.size + 1, 4, none⟩ = some (.int .i64 0) := P8.A.cell 4
      have v0 := P8.A.frozen 0
      have v1 := P8.A.frozen 1
      have v2 := P8.A.frozen 2
      have v3 := P8.A.frozen 3
      have v4 := P8.A.frozen 4
      have o0 : W8.cell? ⟨w.heap.size + 1 + 1, 0, none⟩ = some (.string ⟨#[]⟩) := P8.R.cell 0
      have o1 : W8.cell? ⟨w.heap.size + 1 + 1, 1, none⟩ = some (.bool false) := P8.R.cell 1
      have q0' := P8.R.frozen 0
      have q1' := P8.R.frozen 1
      have z8 := P8.T.lt
      have H8 := Lib.hid (And.intro P8 P8.lt)
      clear P8
      go_region
      all_goals (try go_wp2)
      have F := H8.out.1.fin1 (.string nm) (.slice A1 k c1) (.int .u32 (U1 : Int)) (.int .i64 (U2 : Int)) (.int .i64 (U3 : Int)) (.string (str r6)) (.bool s6)
      obtain ⟨W9, hW9⟩ : ∃ W9, (((((((W8.setCell ⟨w.heap.size + 1, 0, none⟩ (.string nm)).setCell ⟨w.heap.size + 1, 1, none⟩ (.slice A1 k c1)).setCell ⟨w.heap.size + 1, 2, none⟩ (.int .u32 (U1 : Int))).setCell ⟨w.heap.size + 1, 3, none⟩ (.int .i64 (U2 : Int))).setCell ⟨w.heap.size + 1, 4, none⟩ (.int .i64 (U3 : Int))).setCell ⟨w.heap.size + 1 + 1, 0, none⟩ (.string (str r6))).setCell ⟨w.heap.size + 1 + 1, 1, none⟩ (.bool s6)) = W9 := ⟨_, rfl⟩
      rw [hW9] at F
      rw [hW9]
      clear hW9
      exact stable_end F.1.drew F.2.1.drew (by simp) (by simp) ⟨⟨nm, A1, k, c1, (U1 : Int), (U2 : Int), (U3 : Int), cs⟩, r6, s6, rfl, ⟨⟨by (unfold maxLen; show nm.size ≤ _; omega), ⟨HC.out.1, HC.out.2.1⟩, (Reads.of_own F.2.2.1).drew, HC.out.2.2.2.2⟩, u10, u11⟩, fun ad h => by have := HC.out.2.2.1 ad h; omega, H7.out.2.2, rel_tab H1.out.1 H2.out.1 HC.out.2.2.2.1 H7.out.2.1, F.2.2.2.drew⟩
end
end Go.Proofs.Ytjlpfhioacphkaa
/-
  The reference's index.
-/
namespace Go.Proofs.Ytjlpfhioacphkaa
section
set_option linter.unusedSimpArgs false
set_option linter.unusedVariables false
open Go.RowKit

structure R0 (w0 : World) (r : List UInt8) (s : Bool) (W : World) : Prop where
  G : Blk W w0.heap.size 123 #[.string (str r), .bool s]
  b : Below w0.heap.size w0 W
  A : Blk W (w0.heap.size + 1) 67 #[.string ⟨#[]⟩, .int .i64 0, .slice none 0 0, .int .u32 0, .int .i64 0, .int .i64 0, .slice none 0 0]
  R : Blk W (w0.heap.size + 1 + 1) 123 #[.string ⟨#[]⟩, .bool false]
structure RIS (w0 : World) (t1 base : Nat) (tc : Array Value) (u' : Value) (k' : Nat) (xs' : List Value) (u : Value) (k : Nat) (xs : List Value) (r : List UInt8) (s : Bool) (W : World) : Prop where
  T : Blk W t1 67 tc
  oth : W.ownsRow (t1 + 1) 3 1 u' k' xs'
  low : ∀ kk, u'.ownBlock = some kk → kk < base
  own : W.ownsRow base 3 1 u k xs
  z : R0 w0 r s W
  lt : w0.heap.size + 1 + 1 < t1
  lb : t1 < base
  sz : base ≤ W.heap.size
section
variable {w0 W W' : World} {t1 base k k' : Nat} {xs xs' : List Value} {tc : Array Value} {u u' : Value} {r : List UInt8} {s : Bool}
theorem R0.call (h : R0 w0 r s W) (hb : Below W.heap.size W W') : R0 w0 r s W' :=
  ⟨h.G.below hb h.G.lt, bto0 h.b hb, h.A.below hb h.A.lt, h.R.below hb h.R.lt⟩
theorem R0.setG (h : R0 w0 r s W) (r' : List UInt8) (s' : Bool) : R0 w0 r' s' ((W.setCell ⟨w0.heap.size, 0, none⟩ (.string (str r'))).setCell ⟨w0.heap.size, 1, none⟩ (.bool s')) :=
  ⟨(h.G.set_ 0 _).set_ 1 _, (h.b.setCell (Nat.le_refl _) _).setCell (Nat.le_refl _) _, (h.A.far (by simp) _).far (by simp) _, (h.R.far (by simp; omega) _).far (by simp; omega) _⟩
theorem R0.start (h : R0 w0 r s W) {t1 : Nat} (ht : t1 = W.heap.size) (tc : Array Value) : RIS w0 t1 (t1 + 1) tc (.slice none 0 0) 0 [] (.slice none 0 0) 0 [] r s (W.alloc (.cells tc 67)) := by
  have h1 := h.R.lt
  exact ⟨Blk.newAt12 ht, ⟨rfl, .inl ⟨rfl, rfl⟩⟩, fun kk e => (by cases e), ⟨rfl, .inl ⟨rfl, rfl⟩⟩, ⟨h.G.alloc _, ball h.b _, h.A.alloc _, h.R.alloc _⟩, by omega, by omega, by simp; omega⟩
theorem RIS.call (h : RIS w0 t1 base tc u' k' xs' u k xs r s W) (hb : Below W.heap.size W W') : RIS w0 t1 base tc u' k' xs' u k xs r s W' :=
  ⟨h.T.below hb h.T.lt, own_belowR h.oth hb, h.low, own_belowR h.own hb, h.z.call hb, h.lt, h.lb, Nat.le_trans h.sz hb.size⟩
theorem RIS.setG (h : RIS w0 t1 base tc u' k' xs' u k xs r s W) (r' : List UInt8) (s' : Bool) : RIS w0 t1 base tc u' k' xs' u k xs r' s' ((W.setCell ⟨w0.heap.size, 0, none⟩ (.string (str r'))).setCell ⟨w0.heap.size, 1, none⟩ (.bool s')) := by
  have hlt := h.lt
  have hlb := h.lb
  exact ⟨(h.T.far (by simp; omega) _).far (by simp; omega) _, own_farI (own_farI h.oth _ (by omega) _ _) _ (by omega) _ _, h.low, own_farI (own_farI h.own _ (by omega) _ _) _ (by omega) _ _, h.z.setG r' s', hlt, hlb, by have := h.sz; simp [World.setCell]; exact this⟩
theorem RIS.setT (h : RIS w0 t1 base tc u' k' xs' u k xs r s W) (i : Nat) (v : Value) : RIS w0 t1 base (tc.setIfInBounds i v) u' k' xs' u k xs r s (W.setCell ⟨t1, i, none⟩ v) := by
  have hlt := h.lt
  have hlb := h.lb
  exact ⟨h.T.set_ i v, own_farI h.oth _ (by omega) _ _, h.low, own_farI h.own _ (by omega) _ _, ⟨h.z.G.far (by simp; omega) _, h.z.b.setCell (by show w0.heap.size ≤ t1; omega) _, h.z.A.far (by simp; omega) _, h.z.R.far (by simp; omega) _⟩, hlt, hlb, by have := h.sz; simp [World.setCell]; exact this⟩
theorem RIS.push (h : RIS w0 t1 base tc u' k' xs' u k xs r s W) {new : List Value} {v : Value} {o : Obj} (ho : W'.ownsRow base 3 1 v (k + 1) (xs ++ new)) (hg : (W.alloc o).grownBy W' u.ownBlock) : RIS w0 t1 base tc u' k' xs' v (k + 1) (xs ++ new) r s W' := by
  have hlt := h.lt
  have hlb := h.lb
  have hsz := h.sz
  have oa := World.ownsRow.alloc h.own o
  exact ⟨blk_far_own oa (h.T.alloc o) hg (by omega), kept_low (World.ownsRow.alloc h.oth o) hg oa h.low, h.low, ho, ⟨blk_far_own oa (h.z.G.alloc o) hg (by omega), bgrow (ball h.z.b o) hg oa (by omega) (by simp; omega), blk_far_own oa (h.z.A.alloc o) hg (by omega), blk_far_own oa (h.z.R.alloc o) hg (by omega)⟩, hlt, hlb, by have := hg.size; simp at this; omega⟩
/-- The first row is whole: the second begins. -/
theorem RIS.turn (h : RIS w0 t1 (t1 + 1) tc u' k' xs' u k xs r s W) {B : Nat} (hB : B = W.heap.size) : RIS w0 t1 B tc u k xs (.slice none 0 0) 0 [] r s W := by
  have hlb := h.T.lt
  exact ⟨h.T, h.own, fun kk e => by have := (World.ownsRow.lt h.own kk e).2; omega, ⟨rfl, .inl ⟨rfl, rfl⟩⟩, h.z, h.lt, by omega, by omega⟩
theorem RIS.fin1 (h : RIS w0 t1 base tc u' k' xs' u k xs r s W) (a0 a1 a2 a3 a4 a5 a6 b0 b1 : Value) :
    Blk (((((((((W.setCell ⟨w0.heap.size + 1, 0, none⟩ a0).setCell ⟨w0.heap.size + 1, 1, none⟩ a1).setCell ⟨w0.heap.size + 1, 2, none⟩ a2).setCell ⟨w0.heap.size + 1, 3, none⟩ a3).setCell ⟨w0.heap.size + 1, 4, none⟩ a4).setCell ⟨w0.heap.size + 1, 5, none⟩ a5).setCell ⟨w0.heap.size + 1, 6, none⟩ a6).setCell ⟨w0.heap.size + 1 + 1, 0, none⟩ b0).setCell ⟨w0.heap.size + 1 + 1, 1, none⟩ b1) (w0.heap.size + 1) 67 #[a0, a1, a2, a3, a4, a5, a6] ∧
    Blk (((((((((W.setCell ⟨w0.heap.size + 1, 0, none⟩ a0).setCell ⟨w0.heap.size + 1, 1, none⟩ a1).setCell ⟨w0.heap.size + 1, 2, none⟩ a2).setCell ⟨w0.heap.size + 1, 3, none⟩ a3).setCell ⟨w0.heap.size + 1, 4, none⟩ a4).setCell ⟨w0.heap.size + 1, 5, none⟩ a5).setCell ⟨w0.heap.size + 1, 6, none⟩ a6).setCell ⟨w0.heap.size + 1 + 1, 0, none⟩ b0).setCell ⟨w0.heap.size + 1 + 1, 1, none⟩ b1) (w0.heap.size + 1 + 1) 123 #[b0, b1] ∧
    (((((((((W.setCell ⟨w0.heap.size + 1, 0, none⟩ a0).setCell ⟨w0.heap.size + 1, 1, none⟩ a1).setCell ⟨w0.heap.size + 1, 2, none⟩ a2).setCell ⟨w0.heap.size + 1, 3, none⟩ a3).setCell ⟨w0.heap.size + 1, 4, none⟩ a4).setCell ⟨w0.heap.size + 1, 5, none⟩ a5).setCell ⟨w0.heap.size + 1, 6, none⟩ a6).setCell ⟨w0.heap.size + 1 + 1, 0, none⟩ b0).setCell ⟨w0.heap.size + 1 + 1, 1, none⟩ b1).ownsRow (t1 + 1) 3 1 u' k' xs' ∧
    (((((((((W.setCell ⟨w0.heap.size + 1, 0, none⟩ a0).setCell ⟨w0.heap.size + 1, 1, none⟩ a1).setCell ⟨w0.heap.size + 1, 2, none⟩ a2).setCell ⟨w0.heap.size + 1, 3, none⟩ a3).setCell ⟨w0.heap.size + 1, 4, none⟩ a4).setCell ⟨w0.heap.size + 1, 5, none⟩ a5).setCell ⟨w0.heap.size + 1, 6, none⟩ a6).setCell ⟨w0.heap.size + 1 + 1, 0, none⟩ b0).setCell ⟨w0.heap.size + 1 + 1, 1, none⟩ b1).ownsRow base 3 1 u k xs ∧
    Below w0.heap.size w0 (((((((((W.setCell ⟨w0.heap.size + 1, 0, none⟩ a0).setCell ⟨w0.heap.size + 1, 1, none⟩ a1).setCell ⟨w0.heap.size + 1, 2, none⟩ a2).setCell ⟨w0.heap.size + 1, 3, none⟩ a3).setCell ⟨w0.heap.size + 1, 4, none⟩ a4).setCell ⟨w0.heap.size + 1, 5, none⟩ a5).setCell ⟨w0.heap.size + 1, 6, none⟩ a6).setCell ⟨w0.heap.size + 1 + 1, 0, none⟩ b0).setCell ⟨w0.heap.size + 1 + 1, 1, none⟩ b1) := by
  have hlt := h.lt
  have hlb := h.lb
  refine ⟨((((((((h.z.A.set_ 0 a0).set_ 1 a1).set_ 2 a2).set_ 3 a3).set_ 4 a4).set_ 5 a5).set_ 6 a6).far (by simp) _).far (by simp) _, (((((((((h.z.R.far (by simp) a0).far (by simp) a1).far (by simp) a2).far (by simp) a3).far (by simp) a4).far (by simp) a5).far (by simp) a6).set_ 0 b0).set_ 1 b1), ?_, ?_, ?_⟩
  · exact own_farI (own_farI (own_farI (own_farI (own_farI (own_farI (own_farI (own_farI (own_farI h.oth _ (by omega) _ _) _ (by omega) _ _) _ (by omega) _ _) _ (by omega) _ _) _ (by omega) _ _) _ (by omega) _ _) _ (by omega) _ _) _ (by omega) _ _) _ (by omega) _ _
  · exact own_farI (own_farI (own_farI (own_farI (own_farI (own_farI (own_farI (own_farI (own_farI h.own _ (by omega) _ _) _ (by omega) _ _) _ (by omega) _ _) _ (by omega) _ _) _ (by omega) _ _) _ (by omega) _ _) _ (by omega) _ _) _ (by omega) _ _) _ (by omega) _ _
  · have b1' : w0.heap.size ≤ w0.heap.size + 1 := by omega
    have b2 : w0.heap.size ≤ w0.heap.size + 1 + 1 := by omega
    exact ((((((((h.z.b.setCell b1' _).setCell b1' _).setCell b1' _).setCell b1' _).setCell b1' _).setCell b1' _).setCell b1' _).setCell b2 _).setCell b2 _
end
theorem sindex_end {W : World} {A R : Nat} {tm : Array Value} {Q : Ending → World → Prop} {a0 a1 a2 a3 a4 a5 a6 b0 b1 : Value} (hA : Blk W A 67 #[a0, a1, a2, a3, a4, a5, a6]) (hR : Blk W R 123 #[b0, b1])
    (h2 : tm[2]? = some (.pointer (some ⟨A, 0, none⟩))) (h3 : tm[3]? = some (.pointer (some ⟨R, 0, none⟩))) (h : Q (.returned (.tuple #[.agg #[a0, a1, a2, a3, a4, a5, a6], .agg #[b0, b1]])) W) :
    bodyPost Try.prog Try.f53 Q Exit.ret { tmps := tm, defers := [] } W := by
  have q0 : W.cell? ⟨A, 0, none⟩ = some a0 := hA.cell 0
  have q1 : W.cell? ⟨A, 1, none⟩ = some a1 := hA.cell 1
  have q2 : W.cell? ⟨A, 2, none⟩ = some a2 := hA.cell 2
  have q3 : W.cell? ⟨A, 3, none⟩ = some a3 := hA.cell 3
  have q4 : W.cell? ⟨A, 4, none⟩ = some a4 := hA.cell 4
  have q5 : W.cell? ⟨A, 5, none⟩ = some a5 := hA.cell 5
  have q6 : W.cell? ⟨A, 6, none⟩ = some a6 := hA.cell 6
  have p0 : W.cell? ⟨R, 0, none⟩ = some b0 := hR.cell 0
  have p1 : W.cell? ⟨R, 1, none⟩ = some b1 := hR.cell 1
  exact bodyPost_ret (v := .tuple #[.agg #[a0, a1, a2, a3, a4, a5, a6], .agg #[b0, b1]]) (by simp [results, Try.results53, go_sem, h2, h3, q0, q1, q2, q3, q4, q5, q6, p0, p1]) rfl h
def RetRX (w : World) (r : List UInt8) (sh : Bool) (e : Ending) (w' : World) : Prop :=
  ∃ (x : Ix) (r' : List UInt8) (sh' : Bool), e = .returned (.tuple #[x.agg, .agg #[.string (str r'), .bool sh']]) ∧ IxIn w' w'.heap.size x ∧ (∀ ad, x.A = some ad → w.heap.size ≤ ad.block) ∧ (∀ ad, x.B = some ad → w.heap.size ≤ ad.block) ∧ St r' sh' ∧ Rel gIdx r sh x.px r' sh' ∧ Below w.heap.size w w'
set_option maxRecDepth 100000 in
set_option maxHeartbeats 32000000 in
theorem sindex_any (r : List UInt8) (sh : Bool) (w : World) (h : St r sh) :
    Calls Try.prog 53 #[.agg #[.string (str r), .bool sh]] w (RetRX w r sh) := by
  have N0 := Lib.hid fun W => rs_text r sh W h
  obtain ⟨i0, hi0, hz0, hs0, hy0⟩ := int_info8 Try.infoI
  have HZ0 : Hid (R0 w r sh (((w.alloc (.cells #[.string (str r), .bool sh] 123)).alloc (.cells #[.string ⟨#[]⟩, .int .i64 0, .slice none 0 0, .int .u32 0, .int .i64 0, .int .i64 0, .slice none 0 0] 67)).alloc (.cells #[.string ⟨#[]⟩, .bool false] 123))) := Lib.hid ⟨((Blk.newAt12 rfl).alloc _).alloc _, ball (ball (ball (Below.refl _ _) _) _) _, (Blk.newAt12 (by simp)).alloc _, Blk.newAt12 (by simp)⟩
  clear h
  go_enter Try.func53, Try.ntmps53
  go_wp2_with fail
  refine (N0.out _).mono ?_
  rintro e w1 ⟨nm, r1, s1, rfl, hnm, st1, hl1, hb1⟩
  have P1 := (HZ0.out).call hb1
  have c10 : w1.cell? ⟨w.heap.size, 0, none⟩ = _ := P1.G.cell 0
  have c11 : w1.cell? ⟨w.heap.size, 1, none⟩ = _ := P1.G.cell 1
  have f10 := P1.G.frozen 0
  have f11 := P1.G.frozen 1
  have z1 := P1.R.lt
  have Q1 := P1.setG r1 s1
  have d10 : ((w1.setCell ⟨w.heap.size, 0, none⟩ (.string (str r1))).setCell ⟨w.heap.size, 1, none⟩ (.bool s1)).cell? ⟨w.heap.size, 0, none⟩ = some (.string (str r1)) := Q1.G.cell 0
  have d11 : ((w1.setCell ⟨w.heap.size, 0, none⟩ (.string (str r1))).setCell ⟨w.heap.size, 1, none⟩ (.bool s1)).cell? ⟨w.heap.size, 1, none⟩ = some (.bool s1) := Q1.G.cell 1
  have N1 := Lib.hid fun W => rs_one r1 s1 W st1
  have H1 := Lib.hid (And.intro hl1 (And.intro Q1 st1))
  clear P1 Q1 hb1 st1 hl1 N0 
  go_wp2_with fail
  refine (N1.out _).mono ?_
  rintro e w2 ⟨b2, r2, s2, rfl, st2, hl2, hb2⟩
  clear c10 c11 f10 f11 d10 d11
  have P2 := (H1.out.2.1).call hb2
  have c20 : w2.cell? ⟨w.heap.size, 0, none⟩ = _ := P2.G.cell 0
  have c21 : w2.cell? ⟨w.heap.size, 1, none⟩ = _ := P2.G.cell 1
  have f20 := P2.G.frozen 0
  have f21 := P2.G.frozen 1
  have z2 := P2.R.lt
  have Q2 := P2.setG r2 s2
  have hsz : ((w2.setCell ⟨w.heap.size, 0, none⟩ (.string (str r2))).setCell ⟨w.heap.size, 1, none⟩ (.bool s2)).heap.size = w2.heap.size := by simp [World.setCell]
  have Q2 := Q2.start (t1 := w2.heap.size) hsz.symm #[.string nm, .int .i64 (b2.toNat : Int), .slice none 0 0, .int .u32 0, .int .i64 0, .int .i64 0, .slice none 0 0]
  have d20 : (((w2.setCell ⟨w.heap.size, 0, none⟩ (.string (str r2))).setCell ⟨w.heap.size, 1, none⟩ (.bool s2)).alloc (.cells #[.string nm, .int .i64 (b2.toNat : Int), .slice none 0 0, .int .u32 0, .int .i64 0, .int .i64 0, .slice none 0 0] 67)).cell? ⟨w.heap.size, 0, none⟩ = some (.string (str r2)) := Q2.z.G.cell 0
  have d21 : (((w2.setCell ⟨w.heap.size, 0, none⟩ (.string (str r2))).setCell ⟨w.heap.size, 1, none⟩ (.bool s2)).alloc (.cells #[.string nm, .int .i64 (b2.toNat : Int), .slice none 0 0, .int .u32 0, .int .i64 0, .int .i64 0, .slice none 0 0] 67)).cell? ⟨w.heap.size, 1, none⟩ = some (.bool s2) := Q2.z.G.cell 1
  have N2 := Lib.hid fun W => rs_one r2 s2 W st2
  have b20 : (0 : Int) ≤ (b2.toNat : Int) := by omega
  have b21 : (b2.toNat : Int) ≤ 255 := by have := b2.toNat_lt; omega
  have H2 := Lib.hid (And.intro hl2 (And.intro Q2 st2))
  clear P2 Q2 hb2 st2 hl2 N1 
  clear hsz
  go_wp2_with fail
  refine (N2.out _).mono ?_
  rintro e w3 ⟨b3, r3, s3, rfl, st3, hl3, hb3⟩
  clear c20 c21 f20 f21 d20 d21
  have P3 := (H2.out.2.1).call hb3
  have c30 : w3.cell? ⟨w.heap.size, 0, none⟩ = _ := P3.z.G.cell 0
  have c31 : w3.cell? ⟨w.heap.size, 1, none⟩ = _ := P3.z.G.cell 1
  have f30 := P3.z.G.frozen 0
  have f31 := P3.z.G.frozen 1
  have z3 := P3.z.R.lt
  have Q3 := P3.setG r3 s3
  have d30 : ((w3.setCell ⟨w.heap.size, 0, none⟩ (.string (str r3))).setCell ⟨w.heap.size, 1, none⟩ (.bool s3)).cell? ⟨w.heap.size, 0, none⟩ = some (.string (str r3)) := Q3.z.G.cell 0
  have d31 : ((w3.setCell ⟨w.heap.size, 0, none⟩ (.string (str r3))).setCell ⟨w.heap.size, 1, none⟩ (.bool s3)).cell? ⟨w.heap.size, 1, none⟩ = some (.bool s3) := Q3.z.G.cell 1
  have b30 : (0 : Int) ≤ (b3.toNat : Int) := by omega
  have b31 : (b3.toNat : Int) ≤ 255 := by have := b3.toNat_lt; omega
  have H3 := Lib.hid (And.intro hl3 (And.intro Q3 st3))
  clear P3 Q3 hb3 st3 hl3 N2 
  go_wp2
  go_loopw [8] (fun v wr => ∃ (k : Nat) (cs : List Int) (u : Value) (rk : List UInt8) (sk : Bool), k ≤ b3.toNat ∧ v = .int .i64 k ∧ RIS w w2.heap.size (w2.heap.size + 1) #[.string nm, .int .i64 (b2.toNat : Int), u, .int .u32 0, .int .i64 0, .int .i64 0, .slice none 0 0] (.slice none 0 0) 0 [] u k (vI64 cs) rk sk wr ∧ cs.length = k ∧ St rk sk ∧ Rel (gMany (gInt gOne) k) r3 s3 cs rk sk) (fun v _ => b3.toNat - (intOf v).toNat)
  case atStart => exact ⟨0, [], _, r3, s3, by omega, rfl, H3.out.2.1, rfl, H3.out.2.2, rel_many_nil _ _ _⟩
  case round =>
    clear c30 c31 f30 f31 d30 d31
    obtain ⟨wo, rfl⟩ : ∃ wo : World, wo = wr := ⟨_, rfl⟩
    obtain ⟨k, cs, u, rk, sk, hk, rfl, hq, hcl, hst, hl⟩ := hrel
    have q0 : (0 : Int) ≤ (k : Int) := by omega
    have g0 : wo.cell? ⟨w.heap.size, 0, none⟩ = some (.string (str rk)) := hq.z.G.cell 0
    have g1 : wo.cell? ⟨w.heap.size, 1, none⟩ = some (.bool sk) := hq.z.G.cell 1
    have hzo := hq.T.lt
    have hzl := hq.lt
    have HQ := Lib.hid (And.intro hq (And.intro hcl (And.intro hst hl)))
    clear hq hcl hst hl
    by_cases hlt : k < b3.toNat
    · have q1 : (k : Int) < (b3.toNat : Int) := by omega
      have q2 : k < 255 := by omega
      cases sk
      · have N4 := Lib.hid fun W => rs_one rk false W HQ.out.2.2.1
        go_wp2_with fail
        refine (N4.out _).mono ?_
        rintro e w4 ⟨b4, r4, s4, rfl, st4, hl4, hb4⟩
        have P4 := (HQ.out.1.call hb4).call (ball (Below.refl _ _) (.cells #[.string (str r4), .bool s4] 123))
        have c40 : (w4.alloc (.cells #[.string (str r4), .bool s4] 123)).cell? ⟨w.heap.size, 0, none⟩ = _ := P4.z.G.cell 0
        have c41 : (w4.alloc (.cells #[.string (str r4), .bool s4] 123)).cell? ⟨w.heap.size, 1, none⟩ = _ := P4.z.G.cell 1
        have f40 := P4.z.G.frozen 0
        have f41 := P4.z.G.frozen 1
        have z40 := P4.z.R.lt
        have z41 := HQ.out.1.call hb4
        have z42 := z41.T.lt
        have z43 := z41.sz
        have z44 := z41.z.R.lt
        have P5 := P4.setG r4 s4
        have t5 : (((w4.alloc (.cells #[.string (str r4), .bool s4] 123)).setCell ⟨w.heap.size, 0, none⟩ (.string (str r4))).setCell ⟨w.heap.size, 1, none⟩ (.bool s4)).cell? ⟨w2.heap.size, 2, none⟩ = some u := P5.T.cell 2
        have b40 : (0 : Int) ≤ (b4.toNat : Int) := by omega
        have b41 : (b4.toNat : Int) ≤ 255 := by have := b4.toNat_lt; omega
        have H5 := Lib.hid (And.intro hl4 (And.intro P5 st4))
        clear P4 P5 hb4 st4 hl4 N4 z41 g0 g1
        go_wp2_with (at_builtin; refine wpList_pushR12 (news := [.int .i64 (b4.toNat : Int)]) rfl (.tmp 52) (.tmp 54) 65 rfl (w2.heap.size + 1) 3 i0 _ 1 8 Try.underlying65 hi0 hz0 hs0 hy0 rfl (by decide) u k _ (by first | rfl | (simp [Act.eval, Act.put]; done)) H5.out.2.1.own rfl _ (by first | rfl | (simp [Act.eval, Act.put]; done)) (by simp [World.setCell]) rfl (by intro u hu; rw [List.mem_singleton] at hu; subst hu; rfl) (by omega) (by omega) H5.out.2.1.sz ?_; intro v8 w8 own8 kp8 ob8; obtain ⟨A9, cc9, rfl, hcc9⟩ := own_form own8; have T9 := H5.out.2.1.push own8 kp8; have c9 : w8.cell? ⟨w2.heap.size, 2, none⟩ = some u := T9.T.cell 2; have f9 := T9.T.frozen 2; have z9 := T9.T.lt; have H8 := Lib.hid T9; clear own8 kp8 ob8 T9)
        refine ⟨⟨k + 1, cs ++ [(b4.toNat : Int)], .slice A9 (k + 1) cc9, r4, s4, by omega, by go_num, ?_, by simp [HQ.out.2.1], H5.out.2.2, HQ.out.2.2.2.snoc H5.out.1.int⟩, by simp [intOf]; omega⟩
        rw [vI64_snoc]; exact H8.out.setT 2 (.slice A9 (k + 1) cc9)
      · have HX : Rel (gMany (gInt gOne) b3.toNat) r3 s3 cs rk true := rel_short HQ.out.2.2.2 hk
        have N4 := True.intro
        obtain ⟨A1, c1, rfl, hc1⟩ := own_form HQ.out.1.own
        have HC := Lib.hid (And.intro hc1 (And.intro (own_cap12 HQ.out.1.own) (And.intro (own_addr HQ.out.1.own) HX)))
        have N3 := Lib.hid fun W => rs_four rk true W HQ.out.2.2.1
        clear hc1 HX N4
        obtain ⟨k1, rfl⟩ : ∃ k1 : Nat, k1 = k := ⟨_, rfl⟩
        go_wp2_with fail
        refine (N3.out _).mono ?_
        rintro e w4 ⟨U4, r4, s4, rfl, hU4, st4, hl4, hb4⟩
        have P4 := (HQ.out.1).call hb4
        have c40 : w4.cell? ⟨w.heap.size, 0, none⟩ = _ := P4.z.G.cell 0
        have c41 : w4.cell? ⟨w.heap.size, 1, none⟩ = _ := P4.z.G.cell 1
        have f40 := P4.z.G.frozen 0
        have f41 := P4.z.G.frozen 1
        have z4 := P4.z.R.lt
        have Q4 := P4.setG r4 s4
        have d40 : ((w4.setCell ⟨w.heap.size, 0, none⟩ (.string (str r4))).setCell ⟨w.heap.size, 1, none⟩ (.bool s4)).cell? ⟨w.heap.size, 0, none⟩ = some (.string (str r4)) := Q4.z.G.cell 0
        have d41 : ((w4.setCell ⟨w.heap.size, 0, none⟩ (.string (str r4))).setCell ⟨w.heap.size, 1, none⟩ (.bool s4)).cell? ⟨w.heap.size, 1, none⟩ = some (.bool s4) := Q4.z.G.cell 1
        have N4 := Lib.hid fun W => rs_four r4 s4 W st4
        have u40 : (0 : Int) ≤ (U4 : Int) := by omega
        have u41 : (U4 : Int) ≤ 4294967295 := by omega
        have H4 := Lib.hid (And.intro hl4 (And.intro Q4 st4))
        clear P4 Q4 hb4 st4 hl4 N3 g0 g1
        go_wp2_with fail
        refine (N4.out _).mono ?_
        rintro e w5 ⟨U5, r5, s5, rfl, hU5, st5, hl5, hb5⟩
        clear c40 c41 f40 f41 d40 d41
        have P5 := (H4.out.2.1).call hb5
        have c50 : w5.cell? ⟨w.heap.size, 0, none⟩ = _ := P5.z.G.cell 0
        have c51 : w5.cell? ⟨w.heap.size, 1, none⟩ = _ := P5.z.G.cell 1
        have f50 := P5.z.G.frozen 0
        have f51 := P5.z.G.frozen 1
        have z5 := P5.z.R.lt
        have Q5 := P5.setG r5 s5
        have d50 : ((w5.setCell ⟨w.heap.size, 0, none⟩ (.string (str r5))).setCell ⟨w.heap.size, 1, none⟩ (.bool s5)).cell? ⟨w.heap.size, 0, none⟩ = some (.string (str r5)) := Q5.z.G.cell 0
        have d51 : ((w5.setCell ⟨w.heap.size, 0, none⟩ (.string (str r5))).setCell ⟨w.heap.size, 1, none⟩ (.bool s5)).cell? ⟨w.heap.size, 1, none⟩ = some (.bool s5) := Q5.z.G.cell 1
        have N5 := Lib.hid fun W => rs_four r5 s5 W st5
        have u50 : (0 : Int) ≤ (U5 : Int) := by omega
        have u51 : (U5 : Int) ≤ 4294967295 := by omega
        have H5 := Lib.hid (And.intro hl5 (And.intro Q5 st5))
        clear P5 Q5 hb5 st5 hl5 N4 
        go_wp2_with fail
        refine (N5.out _).mono ?_
        rintro e w6 ⟨U6, r6, s6, rfl, hU6, st6, hl6, hb6⟩
        clear c50 c51 f50 f51 d50 d51
        have P6 := (H5.out.2.1).call hb6
        have c60 : w6.cell? ⟨w.heap.size, 0, none⟩ = _ := P6.z.G.cell 0
        have c61 : w6.cell? ⟨w.heap.size, 1, none⟩ = _ := P6.z.G.cell 1
        have f60 := P6.z.G.frozen 0
        have f61 := P6.z.G.frozen 1
        have z6 := P6.z.R.lt
        have Q6 := P6.setG r6 s6
        have d60 : ((w6.setCell ⟨w.heap.size, 0, none⟩ (.string (str r6))).setCell ⟨w.heap.size, 1, none⟩ (.bool s6)).cell? ⟨w.heap.size, 0, none⟩ = some (.string (str r6)) := Q6.z.G.cell 0
        have d61 : ((w6.setCell ⟨w.heap.size, 0, none⟩ (.string (str r6))).setCell ⟨w.heap.size, 1, none⟩ (.bool s6)).cell? ⟨w.heap.size, 1, none⟩ = some (.bool s6) := Q6.z.G.cell 1
        have u60 : (0 : Int) ≤ (U6 : Int) := by omega
        have u61 : (U6 : Int) ≤ 4294967295 := by omega
        have H6 := Lib.hid (And.intro hl6 (And.intro Q6 st6))
        clear P6 Q6 hb6 st6 hl6 N5 
        have HN := rel_nums H4.out.1.int H5.out.1.int H6.out.1.int
        have P6 := H6.out.2.1
        have st6 := H6.out.2.2
        obtain ⟨W7, hW7⟩ : ∃ W7, ((w6.setCell ⟨w.heap.size, 0, none⟩ (.string (str r6))).setCell ⟨w.heap.size, 1, none⟩ (.bool s6)) = W7 := ⟨_, rfl⟩
        rw [hW7] at P6
        have t2 : W7.cell? ⟨w2.heap.size, 3, none⟩ = some (.int .u32 0) := P6.T.cell 3
        have t3 : W7.cell? ⟨w2.heap.size, 4, none⟩ = some (.int .i64 0) := P6.T.cell 4
        have t4 : W7.cell? ⟨w2.heap.size, 5, none⟩ = some (.int .i64 0) := P6.T.cell 5
        have k2 : W7.frozen? ⟨w2.heap.size, 3, none⟩ = _ := P6.T.frozen 3
        have k3 : W7.frozen? ⟨w2.heap.size, 4, none⟩ = _ := P6.T.frozen 4
        have k4 : W7.frozen? ⟨w2.heap.size, 5, none⟩ = _ := P6.T.frozen 5
        rw [← hW7] at t2 t3 t4 k2 k3 k4
        have P7 := ((P6.setT 3 (.int .u32 (U4 : Int))).setT 4 (.int .i64 (U5 : Int))).setT 5 (.int .i64 (U6 : Int))
        rw [← hW7] at P7
        clear hW7
        have P7 := P7.turn rfl
        have H6 := Lib.hid (And.intro HN (And.intro P7 st6))
        clear HN P7 P6 st6 H4 H5
        clear d60 d61
        go_wp2
        obtain ⟨WB, hWB⟩ : ∃ WB, (((((w6.setCell ⟨w.heap.size, 0, none⟩ (.string (str r6))).setCell ⟨w.heap.size, 1, none⟩ (.bool s6)).setCell ⟨w2.heap.size, 3, none⟩ (.int .u32 (U4 : Int))).setCell ⟨w2.heap.size, 4, none⟩ (.int .i64 (U5 : Int))).setCell ⟨w2.heap.size, 5, none⟩ (.int .i64 (U6 : Int))).heap.size = WB := ⟨_, rfl⟩
        have P7 := H6.out.2.1
        rw [hWB] at P7
        clear hWB
        go_loopw [14] (fun v wr => ∃ (k : Nat) (ds : List Int) (u : Value) (rk : List UInt8) (sk : Bool), k ≤ b3.toNat ∧ v = .int .i64 k ∧ RIS w w2.heap.size WB #[.string nm, .int .i64 (b2.toNat : Int), .slice A1 k1 c1, .int .u32 (U4 : Int), .int .i64 (U5 : Int), .int .i64 (U6 : Int), u] (.slice A1 k1 c1) k1 (vI64 cs) u k (vI64 ds) rk sk wr ∧ ds.length = k ∧ St rk sk ∧ Rel (gMany (gInt gFour) k) r6 s6 ds rk sk) (fun v _ => b3.toNat - (intOf v).toNat)
        case atStart => exact ⟨0, [], _, r6, s6, by omega, rfl, P7, rfl, H6.out.2.2, rel_many_nil _ _ _⟩
        case round =>
          clear c60 c61 f60 f61 t2 t3 t4 k2 k3 k4 P7
          obtain ⟨wq, rfl⟩ : ∃ wq : World, wq = wo := ⟨_, rfl⟩
          obtain ⟨wo, rfl⟩ : ∃ wo : World, wo = wr := ⟨_, rfl⟩
          obtain ⟨k, ds, u, rk, sk, hk, rfl, hq, hcl, hst, hl⟩ := hrel
          have q0 : (0 : Int) ≤ (k : Int) := by omega
          have g0 : wo.cell? ⟨w.heap.size, 0, none⟩ = some (.string (str rk)) := hq.z.G.cell 0
          have g1 : wo.cell? ⟨w.heap.size, 1, none⟩ = some (.bool sk) := hq.z.G.cell 1
          have hzo := hq.T.lt
          have hzl := hq.lt
          have HK := Lib.hid (And.intro hq (And.intro hcl (And.intro hst hl)))
          clear hq hcl hst hl
          by_cases hlt : k < b3.toNat
          · have q1 : (k : Int) < (b3.toNat : Int) := by omega
            have q2 : k < 255 := by omega
            cases sk
            · have HQ := HK
              have N4 := Lib.hid fun W => rs_four rk false W HK.out.2.2.1
              go_wp2_with fail
              refine (N4.out _).mono ?_
              rintro e w4 ⟨U4, r4, s4, rfl, hU4, st4, hl4, hb4⟩
              have P4 := (HQ.out.1.call hb4).call (ball (Below.refl _ _) (.cells #[.string (str r4), .bool s4] 123))
              have c40 : (w4.alloc (.cells #[.string (str r4), .bool s4] 123)).cell? ⟨w.heap.size, 0, none⟩ = _ := P4.z.G.cell 0
              have c41 : (w4.alloc (.cells #[.string (str r4), .bool s4] 123)).cell? ⟨w.heap.size, 1, none⟩ = _ := P4.z.G.cell 1
              have f40 := P4.z.G.frozen 0
              have f41 := P4.z.G.frozen 1
              have z40 := P4.z.R.lt
              have z41 := HQ.out.1.call hb4
              have z42 := z41.T.lt
              have z43 := z41.sz
              have z44 := z41.z.R.lt
              have P5 := P4.setG r4 s4
              have t5 : (((w4.alloc (.cells #[.string (str r4), .bool s4] 123)).setCell ⟨w.heap.size, 0, none⟩ (.string (str r4))).setCell ⟨w.heap.size, 1, none⟩ (.bool s4)).cell? ⟨w2.heap.size, 6, none⟩ = some u := P5.T.cell 6
              have H5 := Lib.hid (And.intro hl4 (And.intro P5 st4))
              clear P4 P5 hb4 st4 hl4 N4 z41 g0 g1
              go_wp2_with (at_builtin; refine wpList_pushR12 (news := [.int .i64 (U4 : Int)]) rfl (.tmp 96) (.tmp 98) 65 rfl WB 3 i0 _ 1 8 Try.underlying65 hi0 hz0 hs0 hy0 rfl (by decide) u k _ (by first | rfl | (simp [Act.eval, Act.put]; done)) H5.out.2.1.own rfl _ (by first | rfl | (simp [Act.eval, Act.put]; done)) (by simp [World.setCell]) rfl (by intro u hu; rw [List.mem_singleton] at hu; subst hu; rfl) (by omega) (by omega) H5.out.2.1.sz ?_; intro v8 w8 own8 kp8 ob8; obtain ⟨A9, cc9, rfl, hcc9⟩ := own_form own8; have T9 := H5.out.2.1.push own8 kp8; have c9 : w8.cell? ⟨w2.heap.size, 6, none⟩ = some u := T9.T.cell 6; have f9 := T9.T.frozen 6; have z9 := T9.T.lt; have H8 := Lib.hid T9; clear own8 kp8 ob8 T9)
              refine ⟨⟨k + 1, ds ++ [(U4 : Int)], .slice A9 (k + 1) cc9, r4, s4, by omega, by go_num, ?_, by simp [HQ.out.2.1], H5.out.2.2, HQ.out.2.2.2.snoc H5.out.1.int⟩, by simp [intOf]; omega⟩
              rw [vI64_snoc]; exact H8.out.setT 6 (.slice A9 (k + 1) cc9)
            · have HY : Rel (gMany (gInt gFour) b3.toNat) r6 s6 ds rk true := rel_short HK.out.2.2.2 hk
              obtain ⟨A2, c2', rfl, hc2⟩ := own_form HK.out.1.own
              have P8 := HK.out.1
              have e0 : wo.cell? ⟨w2.heap.size, 0, none⟩ = some (.string nm) := P8.T.cell 0
              have e1 : wo.cell? ⟨w2.heap.size, 1, none⟩ = some (.int .i64 (b2.toNat : Int)) := P8.T.cell 1
              have e2 : wo.cell? ⟨w2.heap.size, 2, none⟩ = some (.slice A1 k1 c1) := P8.T.cell 2
              have e3 : wo.cell? ⟨w2.heap.size, 3, none⟩ = some (.int .u32 (U4 : Int)) := P8.T.cell 3
              have e4 : wo.cell? ⟨w2.heap.size, 4, none⟩ = some (.int .i64 (U5 : Int)) := P8.T.cell 4
              have e5 : wo.cell? ⟨w2.heap.size, 5, none⟩ = some (.int .i64 (U6 : Int)) := P8.T.cell 5
              have e6 : wo.cell? ⟨w2.heap.size, 6, none⟩ = some (.slice A2 k c2') := P8.T.cell 6
              have y0 : wo.cell? ⟨w.heap.size + 1, 0, none⟩ = some (.string ⟨#[]⟩) := P8.z.A.cell 0
              have v0 := P8.z.A.frozen 0
              have y1 : wo.cell? ⟨w.heap.size + 1, 1, none⟩ = some (.int .i64 0) := P8.z.A.cell 1
              have v1 := P8.z.A.frozen 1
              have y2 : wo.cell? ⟨w.heap.size + 1, 2, none⟩ = some (.slice none 0 0) := P8.z.A.cell 2
              have v2 := P8.z.A.frozen 2
              have y3 : wo.cell? ⟨w.heap.size + 1, 3, none⟩ = some (.int .u32 0) := P8.z.A.cell 3
              have v3 := P8.z.A.frozen 3
              have y4 : wo.cell? ⟨w.heap.size + 1, 4, none⟩ = some (.int .i64 0) := P8.z.A.cell 4
              have v4 := P8.z.A.frozen 4
              have y5 : wo.cell? ⟨w.heap.size + 1, 5, none⟩ = some (.int .i64 0) := P8.z.A.cell 5
              have v5 := P8.z.A.frozen 5
              have y6 : wo.cell? ⟨w.heap.size + 1, 6, none⟩ = some (.slice none 0 0) := P8.z.A.cell 6
              have v6 := P8.z.A.frozen 6
              have o0 : wo.cell? ⟨w.heap.size + 1 + 1, 0, none⟩ = some (.string ⟨#[]⟩) := P8.z.R.cell 0
              have o1 : wo.cell? ⟨w.heap.size + 1 + 1, 1, none⟩ = some (.bool false) := P8.z.R.cell 1
              have q0' := P8.z.R.frozen 0
              have q1' := P8.z.R.frozen 1
              have z8 := P8.T.lt
              have zl8 := P8.lt
              have HC2 := Lib.hid (And.intro hc2 (And.intro (own_cap12 P8.own) (And.intro (own_addr P8.own) P8.lb)))
              have H8 := Lib.hid P8
              clear P8
              go_wp2_with fail
              go_region
              all_goals (try go_wp2)
              have F := H8.out.fin1 (.string nm) (.int .i64 (b2.toNat : Int)) (.slice A1 k1 c1) (.int .u32 (U4 : Int)) (.int .i64 (U5 : Int)) (.int .i64 (U6 : Int)) (.slice A2 k c2') (.string (str rk)) (.bool true)
              obtain ⟨W9, hW9⟩ : ∃ W9, (((((((((wo.setCell ⟨w.heap.size + 1, 0, none⟩ (.string nm)).setCell ⟨w.heap.size + 1, 1, none⟩ (.int .i64 (b2.toNat : Int))).setCell ⟨w.heap.size + 1, 2, none⟩ (.slice A1 k1 c1)).setCell ⟨w.heap.size + 1, 3, none⟩ (.int .u32 (U4 : Int))).setCell ⟨w.heap.size + 1, 4, none⟩ (.int .i64 (U5 : Int))).setCell ⟨w.heap.size + 1, 5, none⟩ (.int .i64 (U6 : Int))).setCell ⟨w.heap.size + 1, 6, none⟩ (.slice A2 k c2')).setCell ⟨w.heap.size + 1 + 1, 0, none⟩ (.string (str rk))).setCell ⟨w.heap.size + 1 + 1, 1, none⟩ (.bool true)) = W9 := ⟨_, rfl⟩
              rw [hW9] at F
              rw [hW9]
              clear hW9
              exact sindex_end F.1.drew F.2.1.drew (by simp) (by simp) ⟨⟨nm, (b2.toNat : Int), A1, k1, c1, (U4 : Int), (U5 : Int), (U6 : Int), A2, k, c2', cs, ds⟩, rk, true, rfl, ⟨⟨by (unfold maxLen; show nm.size ≤ _; omega), ⟨HC.out.1, HC.out.2.1⟩, ⟨HC2.out.1, HC2.out.2.1⟩⟩, (Reads.of_own F.2.2.1).drew, (Reads.of_own F.2.2.2.1).drew, u40, u41⟩, fun ad h => by have := HC.out.2.2.1 ad h; omega, fun ad h => by have := HC2.out.2.2.1 ad h; have := HC2.out.2.2.2; omega, HK.out.2.2.1, rel_idx H1.out.1 H2.out.1.int H3.out.1 HC.out.2.2.2 H6.out.1 HY, F.2.2.2.2.drew⟩
          · have hkb : k = b3.toNat := by omega
            have e9 : decide ((k : Int) < (b3.toNat : Int)) = false := by simp; omega
            have HY : Rel (gMany (gInt gFour) b3.toNat) r6 s6 ds rk sk := hkb ▸ HK.out.2.2.2
            clear hkb
            obtain ⟨A2, c2', rfl, hc2⟩ := own_form HK.out.1.own
            have P8 := HK.out.1
            have e0 : wo.cell? ⟨w2.heap.size, 0, none⟩ = some (.string nm) := P8.T.cell 0
            have e1 : wo.cell? ⟨w2.heap.size, 1, none⟩ = some (.int .i64 (b2.toNat : Int)) := P8.T.cell 1
            have e2 : wo.cell? ⟨w2.heap.size, 2, none⟩ = some (.slice A1 k1 c1) := P8.T.cell 2
            have e3 : wo.cell? ⟨w2.heap.size, 3, none⟩ = some (.int .u32 (U4 : Int)) := P8.T.cell 3
            have e4 : wo.cell? ⟨w2.heap.size, 4, none⟩ = some (.int .i64 (U5 : Int)) := P8.T.cell 4
            have e5 : wo.cell? ⟨w2.heap.size, 5, none⟩ = some (.int .i64 (U6 : Int)) := P8.T.cell 5
            have e6 : wo.cell? ⟨w2.heap.size, 6, none⟩ = some (.slice A2 k c2') := P8.T.cell 6
            have y0 : wo.cell? ⟨w.heap.size + 1, 0, none⟩ = some (.string ⟨#[]⟩) := P8.z.A.cell 0
            have v0 := P8.z.A.frozen 0
            have y1 : wo.cell? ⟨w.heap.size + 1, 1, none⟩ = some (.int .i64 0) := P8.z.A.cell 1
            have v1 := P8.z.A.frozen 1
            have y2 : wo.cell? ⟨w.heap.size + 1, 2, none⟩ = some (.slice none 0 0) := P8.z.A.cell 2
            have v2 := P8.z.A.frozen 2
            have y3 : wo.cell? ⟨w.heap.size + 1, 3, none⟩ = some (.int .u32 0) := P8.z.A.cell 3
            have v3 := P8.z.A.frozen 3
            have y4 : wo.cell? ⟨w.heap.size + 1, 4, none⟩ = some (.int .i64 0) := P8.z.A.cell 4
            have v4 := P8.z.A.frozen 4
            have y5 : wo.cell? ⟨w.heap.size + 1, 5, none⟩ = some (.int .i64 0) := P8.z.A.cell 5
            have v5 := P8.z.A.frozen 5
            have y6 : wo.cell? ⟨w.heap.size + 1, 6, none⟩ = some (.slice none 0 0) := P8.z.A.cell 6
            have v6 := P8.z.A.frozen 6
            have o0 : wo.cell? ⟨w.heap.size + 1 + 1, 0, none⟩ = some (.string ⟨#[]⟩) := P8.z.R.cell 0
            have o1 : wo.cell? ⟨w.heap.size + 1 + 1, 1, none⟩ = some (.bool false) := P8.z.R.cell 1
            have q0' := P8.z.R.frozen 0
            have q1' := P8.z.R.frozen 1
            have z8 := P8.T.lt
            have zl8 := P8.lt
            have HC2 := Lib.hid (And.intro hc2 (And.intro (own_cap12 P8.own) (And.intro (own_addr P8.own) P8.lb)))
            have H8 := Lib.hid P8
            clear P8
            go_wp2_with fail
            go_region
            all_goals (try go_wp2)
            have F := H8.out.fin1 (.string nm) (.int .i64 (b2.toNat : Int)) (.slice A1 k1 c1) (.int .u32 (U4 : Int)) (.int .i64 (U5 : Int)) (.int .i64 (U6 : Int)) (.slice A2 k c2') (.string (str rk)) (.bool sk)
            obtain ⟨W9, hW9⟩ : ∃ W9, (((((((((wo.setCell ⟨w.heap.size + 1, 0, none⟩ (.string nm)).setCell ⟨w.heap.size + 1, 1, none⟩ (.int .i64 (b2.toNat : Int))).setCell ⟨w.heap.size + 1, 2, none⟩ (.slice A1 k1 c1)).setCell ⟨w.heap.size + 1, 3, none⟩ (.int .u32 (U4 : Int))).setCell ⟨w.heap.size + 1, 4, none⟩ (.int .i64 (U5 : Int))).setCell ⟨w.heap.size + 1, 5, none⟩ (.int .i64 (U6 : Int))).setCell ⟨w.heap.size + 1, 6, none⟩ (.slice A2 k c2')).setCell ⟨w.heap.size + 1 + 1, 0, none⟩ (.string (str rk))).setCell ⟨w.heap.size + 1 + 1, 1, none⟩ (.bool sk)) = W9 := ⟨_, rfl⟩
            rw [hW9] at F
            rw [hW9]
            clear hW9
            exact sindex_end F.1.drew F.2.1.drew (by simp) (by simp) ⟨⟨nm, (b2.toNat : Int), A1, k1, c1, (U4 : Int), (U5 : Int), (U6 : Int), A2, k, c2', cs, ds⟩, rk, sk, rfl, ⟨⟨by (unfold maxLen; show nm.size ≤ _; omega), ⟨HC.out.1, HC.out.2.1⟩, ⟨HC2.out.1, HC2.out.2.1⟩⟩, (Reads.of_own F.2.2.1).drew, (Reads.of_own F.2.2.2.1).drew, u40, u41⟩, fun ad h => by have := HC.out.2.2.1 ad h; omega, fun ad h => by have := HC2.out.2.2.1 ad h; have := HC2.out.2.2.2; omega, HK.out.2.2.1, rel_idx H1.out.1 H2.out.1.int H3.out.1 HC.out.2.2.2 H6.out.1 HY, F.2.2.2.2.drew⟩
    · have hkb : k = b3.toNat := by omega
      have e9 : decide ((k : Int) < (b3.toNat : Int)) = false := by simp; omega
      have HX : Rel (gMany (gInt gOne) b3.toNat) r3 s3 cs rk sk := hkb ▸ HQ.out.2.2.2
      have N4 := True.intro
      clear hkb
      obtain ⟨A1, c1, rfl, hc1⟩ := own_form HQ.out.1.own
      have HC := Lib.hid (And.intro hc1 (And.intro (own_cap12 HQ.out.1.own) (And.intro (own_addr HQ.out.1.own) HX)))
      have N3 := Lib.hid fun W => rs_four rk sk W HQ.out.2.2.1
      clear hc1 HX N4
      obtain ⟨k1, rfl⟩ : ∃ k1 : Nat, k1 = k := ⟨_, rfl⟩
      go_wp2_with fail
      refine (N3.out _).mono ?_
      rintro e w4 ⟨U4, r4, s4, rfl, hU4, st4, hl4, hb4⟩
      have P4 := (HQ.out.1).call hb4
      have c40 : w4.cell? ⟨w.heap.size, 0, none⟩ = _ := P4.z.G.cell 0
      have c41 : w4.cell? ⟨w.heap.size, 1, none⟩ = _ := P4.z.G.cell 1
      have f40 := P4.z.G.frozen 0
      have f41 := P4.z.G.frozen 1
      have z4 := P4.z.R.lt
      have Q4 := P4.setG r4 s4
      have d40 : ((w4.setCell ⟨w.heap.size, 0, none⟩ (.string (str r4))).setCell ⟨w.heap.size, 1, none⟩ (.bool s4)).cell? ⟨w.heap.size, 0, none⟩ = some (.string (str r4)) := Q4.z.G.cell 0
      have d41 : ((w4.setCell ⟨w.heap.size, 0, none⟩ (.string (str r4))).setCell ⟨w.heap.size, 1, none⟩ (.bool s4)).cell? ⟨w.heap.size, 1, none⟩ = some (.bool s4) := Q4.z.G.cell 1
      have N4 := Lib.hid fun W => rs_four r4 s4 W st4
      have u40 : (0 : Int) ≤ (U4 : Int) := by omega
      have u41 : (U4 : Int) ≤ 4294967295 := by omega
      have H4 := Lib.hid (And.intro hl4 (And.intro Q4 st4))
      clear P4 Q4 hb4 st4 hl4 N3 g0 g1
      go_wp2_with fail
      refine (N4.out _).mono ?_
      rintro e w5 ⟨U5, r5, s5, rfl, hU5, st5, hl5, hb5⟩
      clear c40 c41 f40 f41 d40 d41
      have P5 := (H4.out.2.1).call hb5
      have c50 : w5.cell? ⟨w.heap.size, 0, none⟩ = _ := P5.z.G.cell 0
      have c51 : w5.cell? ⟨w.heap.size, 1, none⟩ = _ := P5.z.G.cell 1
      have f50 := P5.z.G.frozen 0
      have f51 := P5.z.G.frozen 1
      have z5 := P5.z.R.lt
      have Q5 := P5.setG r5 s5
      have d50 : ((w5.setCell ⟨w.heap.size, 0, none⟩ (.string (str r5))).setCell ⟨w.heap.size, 1, none⟩ (.bool s5)).cell? ⟨w.heap.size, 0, none⟩ = some (.string (str r5)) := Q5.z.G.cell 0
      have d51 : ((w5.setCell ⟨w.heap.size, 0, none⟩ (.string (str r5))).setCell ⟨w.heap.size, 1, none⟩ (.bool s5)).cell? ⟨w.heap.size, 1, none⟩ = some (.bool s5) := Q5.z.G.cell 1
      have N5 := Lib.hid fun W => rs_four r5 s5 W st5
      have u50 : (0 : Int) ≤ (U5 : Int) := by omega
      have u51 : (U5 : Int) ≤ 4294967295 := by omega
      have H5 := Lib.hid (And.intro hl5 (And.intro Q5 st5))
      clear P5 Q5 hb5 st5 hl5 N4 
      go_wp2_with fail
      refine (N5.out _).mono ?_
      rintro e w6 ⟨U6, r6, s6, rfl, hU6, st6, hl6, hb6⟩
      clear c50 c51 f50 f51 d50 d51
      have P6 := (H5.out.2.1).call hb6
      have c60 : w6.cell? ⟨w.heap.size, 0, none⟩ = _ := P6.z.G.cell 0
      have c61 : w6.cell? ⟨w.heap.size, 1, none⟩ = _ := P6.z.G.cell 1
      have f60 := P6.z.G.frozen 0
      have f61 := P6.z.G.frozen 1
      have z6 := P6.z.R.lt
      have Q6 := P6.setG r6 s6
      have d60 : ((w6.setCell ⟨w.heap.size, 0, none⟩ (.string (str r6))).setCell ⟨w.heap.size, 1, none⟩ (.bool s6)).cell? ⟨w.heap.size, 0, none⟩ = some (.string (str r6)) := Q6.z.G.cell 0
      have d61 : ((w6.setCell ⟨w.heap.size, 0, none⟩ (.string (str r6))).setCell ⟨w.heap.size, 1, none⟩ (.bool s6)).cell? ⟨w.heap.size, 1, none⟩ = some (.bool s6) := Q6.z.G.cell 1
      have u60 : (0 : Int) ≤ (U6 : Int) := by omega
      have u61 : (U6 : Int) ≤ 4294967295 := by omega
      have H6 := Lib.hid (And.intro hl6 (And.intro Q6 st6))
      clear P6 Q6 hb6 st6 hl6 N5 
      have HN := rel_nums H4.out.1.int H5.out.1.int H6.out.1.int
      have P6 := H6.out.2.1
      have st6 := H6.out.2.2
      obtain ⟨W7, hW7⟩ : ∃ W7, ((w6.setCell ⟨w.heap.size, 0, none⟩ (.string (str r6))).setCell ⟨w.heap.size, 1, none⟩ (.bool s6)) = W7 := ⟨_, rfl⟩
      rw [hW7] at P6
      have t2 : W7.cell? ⟨w2.heap.size, 3, none⟩ = some (.int .u32 0) := P6.T.cell 3
      have t3 : W7.cell? ⟨w2.heap.size, 4, none⟩ = some (.int .i64 0) := P6.T.cell 4
      have t4 : W7.cell? ⟨w2.heap.size, 5, none⟩ = some (.int .i64 0) := P6.T.cell 5
      have k2 : W7.frozen? ⟨w2.heap.size, 3, none⟩ = _ := P6.T.frozen 3
      have k3 : W7.frozen? ⟨w2.heap.size, 4, none⟩ = _ := P6.T.frozen 4
      have k4 : W7.frozen? ⟨w2.heap.size, 5, none⟩ = _ := P6.T.frozen 5
      rw [← hW7] at t2 t3 t4 k2 k3 k4
      have P7 := ((P6.setT 3 (.int .u32 (U4 : Int))).setT 4 (.int .i64 (U5 : Int))).setT 5 (.int .i64 (U6 : Int))
      rw [← hW7] at P7
      clear hW7
      have P7 := P7.turn rfl
      have H6 := Lib.hid (And.intro HN (And.intro P7 st6))
      clear HN P7 P6 st6 H4 H5
      clear d60 d61
      go_wp2
      obtain ⟨WB, hWB⟩ : ∃ WB, (((((w6.setCell ⟨w.heap.size, 0, none⟩ (.string (str r6))).setCell ⟨w.heap.size, 1, none⟩ (.bool s6)).setCell ⟨w2.heap.size, 3, none⟩ (.int .u32 (U4 : Int))).setCell ⟨w2.heap.size, 4, none⟩ (.int .i64 (U5 : Int))).setCell ⟨w2.heap.size, 5, none⟩ (.int .i64 (U6 : Int))).heap.size = WB := ⟨_, rfl⟩
      have P7 := H6.out.2.1
      rw [hWB] at P7
      clear hWB
      go_loopw [14] (fun v wr => ∃ (k : Nat) (ds : List Int) (u : Value) (rk : List UInt8) (sk : Bool), k ≤ b3.toNat ∧ v = .int .i64 k ∧ RIS w w2.heap.size WB #[.string nm, .int .i64 (b2.toNat : Int), .slice A1 k1 c1, .int .u32 (U4 : Int), .int .i64 (U5 : Int), .int .i64 (U6 : Int), u] (.slice A1 k1 c1) k1 (vI64 cs) u k (vI64 ds) rk sk wr ∧ ds.length = k ∧ St rk sk ∧ Rel (gMany (gInt gFour) k) r6 s6 ds rk sk) (fun v _ => b3.toNat - (intOf v).toNat)
      case atStart => exact ⟨0, [], _, r6, s6, by omega, rfl, P7, rfl, H6.out.2.2, rel_many_nil _ _ _⟩
      case round =>
        clear c60 c61 f60 f61 t2 t3 t4 k2 k3 k4 P7
        obtain ⟨wq, rfl⟩ : ∃ wq : World, wq = wo := ⟨_, rfl⟩
        obtain ⟨wo, rfl⟩ : ∃ wo : World, wo = wr := ⟨_, rfl⟩
        obtain ⟨k, ds, u, rk, sk, hk, rfl, hq, hcl, hst, hl⟩ := hrel
        have q0 : (0 : Int) ≤ (k : Int) := by omega
        have g0 : wo.cell? ⟨w.heap.size, 0, none⟩ = some (.string (str rk)) := hq.z.G.cell 0
        have g1 : wo.cell? ⟨w.heap.size, 1, none⟩ = some (.bool sk) := hq.z.G.cell 1
        have hzo := hq.T.lt
        have hzl := hq.lt
        have HK := Lib.hid (And.intro hq (And.intro hcl (And.intro hst hl)))
        clear hq hcl hst hl
        by_cases hlt : k < b3.toNat
        · have q1 : (k : Int) < (b3.toNat : Int) := by omega
          have q2 : k < 255 := by omega
          cases sk
          · have HQ := HK
            have N4 := Lib.hid fun W => rs_four rk false W HK.out.2.2.1
            go_wp2_with fail
            refine (N4.out _).mono ?_
            rintro e w4 ⟨U4, r4, s4, rfl, hU4, st4, hl4, hb4⟩
            have P4 := (HQ.out.1.call hb4).call (ball (Below.refl _ _) (.cells #[.string (str r4), .bool s4] 123))
            have c40 : (w4.alloc (.cells #[.string (str r4), .bool s4] 123)).cell? ⟨w.heap.size, 0, none⟩ = _ := P4.z.G.cell 0
            have c41 : (w4.alloc (.cells #[.string (str r4), .bool s4] 123)).cell? ⟨w.heap.size, 1, none⟩ = _ := P4.z.G.cell 1
            have f40 := P4.z.G.frozen 0
            have f41 := P4.z.G.frozen 1
            have z40 := P4.z.R.lt
            have z41 := HQ.out.1.call hb4
            have z42 := z41.T.lt
            have z43 := z41.sz
            have z44 := z41.z.R.lt
            have P5 := P4.setG r4 s4
            have t5 : (((w4.alloc (.cells #[.string (str r4), .bool s4] 123)).setCell ⟨w.heap.size, 0, none⟩ (.string (str r4))).setCell ⟨w.heap.size, 1, none⟩ (.bool s4)).cell? ⟨w2.heap.size, 6, none⟩ = some u := P5.T.cell 6
            have H5 := Lib.hid (And.intro hl4 (And.intro P5 st4))
            clear P4 P5 hb4 st4 hl4 N4 z41 g0 g1
            go_wp2_with (at_builtin; refine wpList_pushR12 (news := [.int .i64 (U4 : Int)]) rfl (.tmp 96) (.tmp 98) 65 rfl WB 3 i0 _ 1 8 Try.underlying65 hi0 hz0 hs0 hy0 rfl (by decide) u k _ (by first | rfl | (simp [Act.eval, Act.put]; done)) H5.out.2.1.own rfl _ (by first | rfl | (simp [Act.eval, Act.put]; done)) (by simp [World.setCell]) rfl (by intro u hu; rw [List.mem_singleton] at hu; subst hu; rfl) (by omega) (by omega) H5.out.2.1.sz ?_; intro v8 w8 own8 kp8 ob8; obtain ⟨A9, cc9, rfl, hcc9⟩ := own_form own8; have T9 := H5.out.2.1.push own8 kp8; have c9 : w8.cell? ⟨w2.heap.size, 6, none⟩ = some u := T9.T.cell 6; have f9 := T9.T.frozen 6; have z9 := T9.T.lt; have H8 := Lib.hid T9; clear own8 kp8 ob8 T9)
            refine ⟨⟨k + 1, ds ++ [(U4 : Int)], .slice A9 (k + 1) cc9, r4, s4, by omega, by go_num, ?_, by simp [HQ.out.2.1], H5.out.2.2, HQ.out.2.2.2.snoc H5.out.1.int⟩, by simp [intOf]; omega⟩
            rw [vI64_snoc]; exact H8.out.setT 6 (.slice A9 (k + 1) cc9)
          · have HY : Rel (gMany (gInt gFour) b3.toNat) r6 s6 ds rk true := rel_short HK.out.2.2.2 hk
            obtain ⟨A2, c2', rfl, hc2⟩ := own_form HK.out.1.own
            have P8 := HK.out.1
            have e0 : wo.cell? ⟨w2.heap.size, 0, none⟩ = some (.string nm) := P8.T.cell 0
            have e1 : wo.cell? ⟨w2.heap.size, 1, none⟩ = some (.int .i64 (b2.toNat : Int)) := P8.T.cell 1
            have e2 : wo.cell? ⟨w2.heap.size, 2, none⟩ = some (.slice A1 k1 c1) := P8.T.cell 2
            have e3 : wo.cell? ⟨w2.heap.size, 3, none⟩ = some (.int .u32 (U4 : Int)) := P8.T.cell 3
            have e4 : wo.cell? ⟨w2.heap.size, 4, none⟩ = some (.int .i64 (U5 : Int)) := P8.T.cell 4
            have e5 : wo.cell? ⟨w2.heap.size, 5, none⟩ = some (.int .i64 (U6 : Int)) := P8.T.cell 5
            have e6 : wo.cell? ⟨w2.heap.size, 6, none⟩ = some (.slice A2 k c2') := P8.T.cell 6
            have y0 : wo.cell? ⟨w.heap.size + 1, 0, none⟩ = some (.string ⟨#[]⟩) := P8.z.A.cell 0
            have v0 := P8.z.A.frozen 0
            have y1 : wo.cell? ⟨w.heap.size + 1, 1, none⟩ = some (.int .i64 0) := P8.z.A.cell 1
            have v1 := P8.z.A.frozen 1
            have y2 : wo.cell? ⟨w.heap.size + 1, 2, none⟩ = some (.slice none 0 0) := P8.z.A.cell 2
            have v2 := P8.z.A.frozen 2
            have y3 : wo.cell? ⟨w.heap.size + 1, 3, none⟩ = some (.int .u32 0) := P8.z.A.cell 3
            have v3 := P8.z.A.frozen 3
            have y4 : wo.cell? ⟨w.heap.size + 1, 4, none⟩ = some (.int .i64 0) := P8.z.A.cell 4
            have v4 := P8.z.A.frozen 4
            have y5 : wo.cell? ⟨w.heap.size + 1, 5, none⟩ = some (.int .i64 0) := P8.z.A.cell 5
            have v5 := P8.z.A.frozen 5
            have y6 : wo.cell? ⟨w.heap.size + 1, 6, none⟩ = some (.slice none 0 0) := P8.z.A.cell 6
            have v6 := P8.z.A.frozen 6
            have o0 : wo.cell? ⟨w.heap.size + 1 + 1, 0, none⟩ = some (.string ⟨#[]⟩) := P8.z.R.cell 0
            have o1 : wo.cell? ⟨w.heap.size + 1 + 1, 1, none⟩ = some (.bool false) := P8.z.R.cell 1
            have q0' := P8.z.R.frozen 0
            have q1' := P8.z.R.frozen 1
            have z8 := P8.T.lt
            have zl8 := P8.lt
            have HC2 := Lib.hid (And.intro hc2 (And.intro (own_cap12 P8.own) (And.intro (own_addr P8.own) P8.lb)))
            have H8 := Lib.hid P8
            clear P8
            go_wp2_with fail
            go_region
            all_goals (try go_wp2)
            have F := H8.out.fin1 (.string nm) (.int .i64 (b2.toNat : Int)) (.slice A1 k1 c1) (.int .u32 (U4 : Int)) (.int .i64 (U5 : Int)) (.int .i64 (U6 : Int)) (.slice A2 k c2') (.string (str rk)) (.bool true)
            obtain ⟨W9, hW9⟩ : ∃ W9, (((((((((wo.setCell ⟨w.heap.size + 1, 0, none⟩ (.string nm)).setCell ⟨w.heap.size + 1, 1, none⟩ (.int .i64 (b2.toNat : Int))).setCell ⟨w.heap.size + 1, 2, none⟩ (.slice A1 k1 c1)).setCell ⟨w.heap.size + 1, 3, none⟩ (.int .u32 (U4 : Int))).setCell ⟨w.heap.size + 1, 4, none⟩ (.int .i64 (U5 : Int))).setCell ⟨w.heap.size + 1, 5, none⟩ (.int .i64 (U6 : Int))).setCell ⟨w.heap.size + 1, 6, none⟩ (.slice A2 k c2')).setCell ⟨w.heap.size + 1 + 1, 0, none⟩ (.string (str rk))).setCell ⟨w.heap.size + 1 + 1, 1, none⟩ (.bool true)) = W9 := ⟨_, rfl⟩
            rw [hW9] at F
            rw [hW9]
            clear hW9
            exact sindex_end F.1.drew F.2.1.drew (by simp) (by simp) ⟨⟨nm, (b2.toNat : Int), A1, k1, c1, (U4 : Int), (U5 : Int), (U6 : Int), A2, k, c2', cs, ds⟩, rk, true, rfl, ⟨⟨by (unfold maxLen; show nm.size ≤ _; omega), ⟨HC.out.1, HC.out.2.1⟩, ⟨HC2.out.1, HC2.out.2.1⟩⟩, (Reads.of_own F.2.2.1).drew, (Reads.of_own F.2.2.2.1).drew, u40, u41⟩, fun ad h => by have := HC.out.2.2.1 ad h; omega, fun ad h => by have := HC2.out.2.2.1 ad h; have := HC2.out.2.2.2; omega, HK.out.2.2.1, rel_idx H1.out.1 H2.out.1.int H3.out.1 HC.out.2.2.2 H6.out.1 HY, F.2.2.2.2.drew⟩
        · have hkb : k = b3.toNat := by omega
          have e9 : decide ((k : Int) < (b3.toNat : Int)) = false := by simp; omega
          have HY : Rel (gMany (gInt gFour) b3.toNat) r6 s6 ds rk sk := hkb ▸ HK.out.2.2.2
          clear hkb
          obtain ⟨A2, c2', rfl, hc2⟩ := own_form HK.out.1.own
          have P8 := HK.out.1
          have e0 : wo.cell? ⟨w2.heap.size, 0, none⟩ = some (.string nm) := P8.T.cell 0
          have e1 : wo.cell? ⟨w2.heap.size, 1, none⟩ = some (.int .i64 (b2.toNat : Int)) := P8.T.cell 1
          have e2 : wo.cell? ⟨w2.heap.size, 2, none⟩ = some (.slice A1 k1 c1) := P8.T.cell 2
          have e3 : wo.cell? ⟨w2.heap.size, 3, none⟩ = some (.int .u32 (U4 : Int)) := P8.T.cell 3
          have e4 : wo.cell? ⟨w2.heap.size, 4, none⟩ = some (.int .i64 (U5 : Int)) := P8.T.cell 4
          have e5 : wo.cell? ⟨w2.heap.size, 5, none⟩ = some (.int .i64 (U6 : Int)) := P8.T.cell 5
          have e6 : wo.cell? ⟨w2.heap.size, 6, none⟩ = some (.slice A2 k c2') := P8.T.cell 6
          have y0 : wo.cell? ⟨w.heap.size + 1, 0, none⟩ = some (.string ⟨#[]⟩) := P8.z.A.cell 0
          have v0 := P8.z.A.frozen 0
          have y1 : wo.cell? ⟨w.heap.size + 1, 1, none⟩ = some (.int .i64 0) := P8.z.A.cell 1
          have v1 := P8.z.A.frozen 1
          have y2 : wo.cell? ⟨w.heap.size + 1, 2, none⟩ = some (.slice none 0 0) := P8.z.A.cell 2
          have v2 := P8.z.A.frozen 2
          have y3 : wo.cell? ⟨w.heap.size + 1, 3, none⟩ = some (.int .u32 0) := P8.z.A.cell 3
          have v3 := P8.z.A.frozen 3
          have y4 : wo.cell? ⟨w.heap.size + 1, 4, none⟩ = some (.int .i64 0) := P8.z.A.cell 4
          have v4 := P8.z.A.frozen 4
          have y5 : wo.cell? ⟨w.heap.size + 1, 5, none⟩ = some (.int .i64 0) := P8.z.A.cell 5
          have v5 := P8.z.A.frozen 5
          have y6 : wo.cell? ⟨w.heap.size + 1, 6, none⟩ = some (.slice none 0 0) := P8.z.A.cell 6
          have v6 := P8.z.A.frozen 6
          have o0 : wo.cell? ⟨w.heap.size + 1 + 1, 0, none⟩ = some (.string ⟨#[]⟩) := P8.z.R.cell 0
          have o1 : wo.cell? ⟨w.heap.size + 1 + 1, 1, none⟩ = some (.bool false) := P8.z.R.cell 1
          have q0' := P8.z.R.frozen 0
          have q1' := P8.z.R.frozen 1
          have z8 := P8.T.lt
          have zl8 := P8.lt
          have HC2 := Lib.hid (And.intro hc2 (And.intro (own_cap12 P8.own) (And.intro (own_addr P8.own) P8.lb)))
          have H8 := Lib.hid P8
          clear P8
          go_wp2_with fail
          go_region
          all_goals (try go_wp2)
          have F := H8.out.fin1 (.string nm) (.int .i64 (b2.toNat : Int)) (.slice A1 k1 c1) (.int .u32 (U4 : Int)) (.int .i64 (U5 : Int)) (.int .i64 (U6 : Int)) (.slice A2 k c2') (.string (str rk)) (.bool sk)
          obtain ⟨W9, hW9⟩ : ∃ W9, (((((((((wo.setCell ⟨w.heap.size + 1, 0, none⟩ (.string nm)).setCell ⟨w.heap.size + 1, 1, none⟩ (.int .i64 (b2.toNat : Int))).setCell ⟨w.heap.size + 1, 2, none⟩ (.slice A1 k1 c1)).setCell ⟨w.heap.size + 1, 3, none⟩ (.int .u32 (U4 : Int))).setCell ⟨w.heap.size + 1, 4, none⟩ (.int .i64 (U5 : Int))).setCell ⟨w.heap.size + 1, 5, none⟩ (.int .i64 (U6 : Int))).setCell ⟨w.heap.size + 1, 6, none⟩ (.slice A2 k c2')).setCell ⟨w.heap.size + 1 + 1, 0, none⟩ (.string (str rk))).setCell ⟨w.heap.size + 1 + 1, 1, none⟩ (.bool sk)) = W9 := ⟨_, rfl⟩
          rw [hW9] at F
          rw [hW9]
          clear hW9
          exact sindex_end F.1.drew F.2.1.drew (by simp) (by simp) ⟨⟨nm, (b2.toNat : Int), A1, k1, c1, (U4 : Int), (U5 : Int), (U6 : Int), A2, k, c2', cs, ds⟩, rk, sk, rfl, ⟨⟨by (unfold maxLen; show nm.size ≤ _; omega), ⟨HC.out.1, HC.out.2.1⟩, ⟨HC2.out.1, HC2.out.2.1⟩⟩, (Reads.of_own F.2.2.1).drew, (Reads.of_own F.2.2.2.1).drew, u40, u41⟩, fun ad h => by have := HC.out.2.2.1 ad h; omega, fun ad h => by have := HC2.out.2.2.1 ad h; have := HC2.out.2.2.2; omega, HK.out.2.2.1, rel_idx H1.out.1 H2.out.1.int H3.out.1 HC.out.2.2.2 H6.out.1 HY, F.2.2.2.2.drew⟩
end
end Go.Proofs.Ytjlpfhioacphkaa
/-
  The reference's Get.
-/
namespace Go.Proofs.Ytjlpfhioacphkaa
section
set_option linter.unusedSimpArgs false
set_option linter.unusedVariables false
open Go.RowKit

def Aq (u1 u2 : Value) (T : Nat) (A : Option Addr) (n : Nat) : Prop := 0 < n → ∀ ad, A = some ad → T < ad.block ∧ u1.ownBlock ≠ some ad.block ∧ u2.ownBlock ≠ some ad.block
structure RG (w0 : World) (B2 : Nat) (u1 : Value) (k1 : Nat) (l : List Tb) (u2 : Value) (k2 : Nat) (x : List Ix) (r : List UInt8) (s : Bool) (W : World) : Prop where
  Z : Blk W w0.heap.size 25 #[.slice none 0 0, .slice none 0 0]
  G : Blk W (w0.heap.size + 1) 123 #[.string (str r), .bool s]
  T : Blk W (w0.heap.size + 1 + 1) 25 #[u1, u2]
  own1 : W.ownsRow (w0.heap.size + 1 + 1 + 1) 62 5 u1 k1 (vTb l)
  own2 : W.ownsRow B2 67 7 u2 k2 (vIx x)
  low : ∀ kk, u1.ownBlock = some kk → kk < B2
  hl : ∀ t ∈ l, TbOk W W.heap.size t ∧ Aq u1 u2 (w0.heap.size + 1 + 1) t.A t.n
  hx : ∀ y ∈ x, IxIn W W.heap.size y ∧ Aq u1 u2 (w0.heap.size + 1 + 1) y.A y.n ∧ Aq u1 u2 (w0.heap.size + 1 + 1) y.B y.m
  b : Below w0.heap.size w0 W
  lb : w0.heap.size + 1 + 1 + 1 ≤ B2
  sz : B2 ≤ W.heap.size
section
variable {w0 W W' : World} {B2 k1 k2 : Nat} {u1 u2 : Value} {l : List Tb} {x : List Ix} {r : List UInt8} {s : Bool}
theorem RG.els (h : RG w0 B2 u1 k1 l u2 k2 x r s W) (hs : W.heap.size ≤ W'.heap.size) (hh : ∀ b, b < W.heap.size → w0.heap.size + 1 + 1 < b → u1.ownBlock ≠ some b → u2.ownBlock ≠ some b → W'.heap[b]? = W.heap[b]?) :
    (∀ t ∈ l, TbOk W' W'.heap.size t) ∧ (∀ y ∈ x, IxIn W' W'.heap.size y) := by
  refine ⟨fun t ht => ?_, fun y hy => ?_⟩
  · obtain ⟨g1, g2⟩ := h.hl t ht
    refine g1.stay hs fun hn ad ha => ?_
    obtain ⟨a1, a2, a3⟩ := g2 hn ad ha
    exact hh _ (reads_lt g1.1.2.2.1 hn ad ha) a1 a2 a3
  · obtain ⟨g1, g2, g3⟩ := h.hx y hy
    refine g1.stay hs (fun hn ad ha => ?_) (fun hn ad ha => ?_)
    · obtain ⟨a1, a2, a3⟩ := g2 hn ad ha
      exact hh _ (reads_lt g1.2.1 hn ad ha) a1 a2 a3
    · obtain ⟨a1, a2, a3⟩ := g3 hn ad ha
      exact hh _ (reads_lt g1.2.2.1 hn ad ha) a1 a2 a3
theorem RG.call (h : RG w0 B2 u1 k1 l u2 k2 x r s W) (hb : Below W.heap.size W W') : RG w0 B2 u1 k1 l u2 k2 x r s W' := by
  obtain ⟨e1, e2⟩ := h.els hb.size (fun b hb' _ _ _ => hb.block b hb')
  exact ⟨h.Z.below hb h.Z.lt, h.G.below hb h.G.lt, h.T.below hb h.T.lt, own_belowR h.own1 hb, own_belowR h.own2 hb, h.low, fun t ht => ⟨e1 t ht, (h.hl t ht).2⟩, fun y hy => ⟨e2 y hy, (h.hx y hy).2⟩, bto0 h.b hb, h.lb, Nat.le_trans h.sz hb.size⟩
theorem RG.setG (h : RG w0 B2 u1 k1 l u2 k2 x r s W) (r' : List UInt8) (s' : Bool) : RG w0 B2 u1 k1 l u2 k2 x r' s' ((W.setCell ⟨w0.heap.size + 1, 0, none⟩ (.string (str r'))).setCell ⟨w0.heap.size + 1, 1, none⟩ (.bool s')) := by
  have hlb := h.lb
  have hsz : ((W.setCell ⟨w0.heap.size + 1, 0, none⟩ (.string (str r'))).setCell ⟨w0.heap.size + 1, 1, none⟩ (.bool s')).heap.size = W.heap.size := by simp [World.setCell]
  obtain ⟨e1, e2⟩ := h.els (W' := ((W.setCell ⟨w0.heap.size + 1, 0, none⟩ (.string (str r'))).setCell ⟨w0.heap.size + 1, 1, none⟩ (.bool s'))) (by rw [hsz]; exact Nat.le_refl _) (fun b _ hT _ _ => (Below.heap_setCell _ _ _ _ (by simp; omega)).trans (Below.heap_setCell _ _ _ _ (by simp; omega)))
  exact ⟨(h.Z.far (by simp) _).far (by simp) _, (h.G.set_ 0 _).set_ 1 _, (h.T.far (by simp) _).far (by simp) _, own_farI (own_farI h.own1 _ (by omega) _ _) _ (by omega) _ _, own_farI (own_farI h.own2 _ (by omega) _ _) _ (by omega) _ _, h.low, fun t ht => ⟨e1 t ht, (h.hl t ht).2⟩, fun y hy => ⟨e2 y hy, (h.hx y hy).2⟩, (h.b.setCell (by simp) _).setCell (by simp) _, hlb, by rw [hsz]; exact h.sz⟩
theorem RG.turn (h : RG w0 B2 u1 k1 l (.slice none 0 0) 0 [] r s W) {B : Nat} (hB : B = W.heap.size) : RG w0 B u1 k1 l (.slice none 0 0) 0 [] r s W := by
  subst hB
  exact ⟨h.Z, h.G, h.T, h.own1, ⟨rfl, .inl ⟨rfl, rfl⟩⟩, fun kk e => (World.ownsRow.lt h.own1 kk e).2, h.hl, h.hx, h.b, Nat.le_trans h.lb h.sz, Nat.le_refl _⟩
/-- One table more. -/
theorem RG.pushT (h : RG w0 B2 u1 k1 l (.slice none 0 0) 0 [] r s W) {q : Tb} {o : Obj} {v : Value} (hq : TbOk W W.heap.size q) (hqA : 0 < q.n → ∀ ad, q.A = some ad → w0.heap.size + 1 + 1 < ad.block ∧ u1.ownBlock ≠ some ad.block)
    (ho : W'.ownsRow (w0.heap.size + 1 + 1 + 1) 62 5 v (k1 + 1) (vTb l ++ q.cells)) (hg : (W.alloc o).grownBy W' u1.ownBlock) (hv : v.ownBlock = u1.ownBlock ∨ v.ownBlock = some (W.heap.size + 1)) :
    RG w0 (W'.setCell ⟨w0.heap.size + 1 + 1, 0, none⟩ v).heap.size v (k1 + 1) (l ++ [q]) (.slice none 0 0) 0 [] r s (W'.setCell ⟨w0.heap.size + 1 + 1, 0, none⟩ v) := by
  have hlb := h.lb
  have hsz0 := h.sz
  have oa := World.ownsRow.alloc h.own1 o
  have hs1 := hg.size
  have hs2 : (W'.setCell ⟨w0.heap.size + 1 + 1, 0, none⟩ v).heap.size = W'.heap.size := by simp [World.setCell]
  have hs3 : W.heap.size ≤ (W'.setCell ⟨w0.heap.size + 1 + 1, 0, none⟩ v).heap.size := by rw [hs2]; simp at hs1; omega
  have hvn : ∀ b, b < W.heap.size → u1.ownBlock ≠ some b → v.ownBlock ≠ some b := fun b hb hu e => by
    rcases hv with h1 | h1
    · rw [h1] at e; exact hu e
    · rw [h1] at e; injection e with e; omega
  obtain ⟨e1, e2⟩ := h.els hs3 (fun b hb hT hu _ => stayN hg hb hu (by omega))
  have own' := own_farI ho (w0.heap.size + 1 + 1) (by omega) 0 v
  refine ⟨(blk_far_own oa (h.Z.alloc o) hg (by omega)).far (by simp; omega) _, (blk_far_own oa (h.G.alloc o) hg (by omega)).far (by simp) _, (blk_far_own oa (h.T.alloc o) hg (by omega)).set_ 0 v, by rw [vTb_snoc]; exact own', ⟨rfl, .inl ⟨rfl, rfl⟩⟩, fun kk e => (World.ownsRow.lt own' kk e).2, fun t ht => ?_, fun y hy => (by cases hy), (bgrow (ball h.b o) hg oa (by omega) (by simp; omega)).setCell (by show w0.heap.size ≤ w0.heap.size + 1 + 1; omega) _, by rw [hs2]; simp at hs1; omega, Nat.le_refl _⟩
  rcases List.mem_append.1 ht with h1 | h1
  · refine ⟨e1 t h1, fun hn ad ha => ?_⟩
    obtain ⟨a1, a2, a3⟩ := (h.hl t h1).2 hn ad ha
    exact ⟨a1, hvn _ (reads_lt (h.hl t h1).1.1.2.2.1 hn ad ha) a2, a3⟩
  · rw [List.mem_singleton] at h1
    subst h1
    refine ⟨hq.stay hs3 (fun hn ad ha => stayN hg (reads_lt hq.1.2.2.1 hn ad ha) (hqA hn ad ha).2 (by have := (hqA hn ad ha).1; omega)), fun hn ad ha => ?_⟩
    obtain ⟨a1, a2⟩ := hqA hn ad ha
    exact ⟨a1, hvn _ (reads_lt hq.1.2.2.1 hn ad ha) a2, fun e => (by cases e)⟩
/-- One index more. -/
theorem RG.pushX (h : RG w0 B2 u1 k1 l u2 k2 x r s W) {q : Ix} {o : Obj} {v : Value} (hq : IxIn W W.heap.size q) (hqA : 0 < q.n → ∀ ad, q.A = some ad → w0.heap.size + 1 + 1 < ad.block ∧ u1.ownBlock ≠ some ad.block ∧ u2.ownBlock ≠ some ad.block) (hqB : 0 < q.m → ∀ ad, q.B = some ad → w0.heap.size + 1 + 1 < ad.block ∧ u1.ownBlock ≠ some ad.block ∧ u2.ownBlock ≠ some ad.block)
    (ho : W'.ownsRow B2 67 7 v (k2 + 1) (vIx x ++ q.cells)) (hg : (W.alloc o).grownBy W' u2.ownBlock) (hv : v.ownBlock = u2.ownBlock ∨ v.ownBlock = some (W.heap.size + 1)) :
    RG w0 B2 u1 k1 l v (k2 + 1) (x ++ [q]) r s (W'.setCell ⟨w0.heap.size + 1 + 1, 1, none⟩ v) := by
  have hlb := h.lb
  have hsz0 := h.sz
  have oa := World.ownsRow.alloc h.own2 o
  have hs1 := hg.size
  have hs2 : (W'.setCell ⟨w0.heap.size + 1 + 1, 1, none⟩ v).heap.size = W'.heap.size := by simp [World.setCell]
  have hs3 : W.heap.size ≤ (W'.setCell ⟨w0.heap.size + 1 + 1, 1, none⟩ v).heap.size := by rw [hs2]; simp at hs1; omega
  have hvn : ∀ b, b < W.heap.size → u2.ownBlock ≠ some b → v.ownBlock ≠ some b := fun b hb hu e => by
    rcases hv with h1 | h1
    · rw [h1] at e; exact hu e
    · rw [h1] at e; injection e with e; omega
  obtain ⟨e1, e2⟩ := h.els hs3 (fun b hb hT hu1 hu2 => stayN hg hb hu2 (by omega))
  have own' := own_farI ho (w0.heap.size + 1 + 1) (by omega) 1 v
  refine ⟨(blk_far_own oa (h.Z.alloc o) hg (by omega)).far (by simp; omega) _, (blk_far_own oa (h.G.alloc o) hg (by omega)).far (by simp) _, (blk_far_own oa (h.T.alloc o) hg (by omega)).set_ 1 v, own_farI (kept_low (World.ownsRow.alloc h.own1 o) hg oa h.low) (w0.heap.size + 1 + 1) (by omega) 1 v, by rw [vIx_snoc]; exact own', h.low, fun t ht => ⟨e1 t ht, fun hn ad ha => ?_⟩, fun y hy => ?_, (bgrow (ball h.b o) hg oa (by omega) (by simp; omega)).setCell (by show w0.heap.size ≤ w0.heap.size + 1 + 1; omega) _, hlb, by rw [hs2]; simp at hs1; omega⟩
  · obtain ⟨a1, a2, a3⟩ := (h.hl t ht).2 hn ad ha
    exact ⟨a1, a2, hvn _ (reads_lt (h.hl t ht).1.1.2.2.1 hn ad ha) a3⟩
  rcases List.mem_append.1 hy with h1 | h1
  · refine ⟨e2 y h1, fun hn ad ha => ?_, fun hn ad ha => ?_⟩
    · obtain ⟨a1, a2, a3⟩ := (h.hx y h1).2.1 hn ad ha
      exact ⟨a1, a2, hvn _ (reads_lt (h.hx y h1).1.2.1 hn ad ha) a3⟩
    · obtain ⟨a1, a2, a3⟩ := (h.hx y h1).2.2 hn ad ha
      exact ⟨a1, a2, hvn _ (reads_lt (h.hx y h1).1.2.2.1 hn ad ha) a3⟩
  · rw [List.mem_singleton] at h1
    subst h1
    refine ⟨hq.stay hs3 (fun hn ad ha => stayN hg (reads_lt hq.2.1 hn ad ha) (hqA hn ad ha).2.2 (by have := (hqA hn ad ha).1; omega)) (fun hn ad ha => stayN hg (reads_lt hq.2.2.1 hn ad ha) (hqB hn ad ha).2.2 (by have := (hqB hn ad ha).1; omega)), fun hn ad ha => ?_, fun hn ad ha => ?_⟩
    · obtain ⟨a1, a2, a3⟩ := hqA hn ad ha
      exact ⟨a1, a2, hvn _ (reads_lt hq.2.1 hn ad ha) a3⟩
    · obtain ⟨a1, a2, a3⟩ := hqB hn ad ha
      exact ⟨a1, a2, hvn _ (reads_lt hq.2.2.1 hn ad ha) a3⟩
end
end
end Go.Proofs.Ytjlpfhioacphkaa
/-
  The reference's Get: the walk.
-/
namespace Go.Proofs.Ytjlpfhioacphkaa
section
set_option linter.unusedSimpArgs false
set_option linter.unusedVariables false
open Go.RowKit

/-- What the reference's Get answers. -/
def RetRG (w : World) (bs : List UInt8) (e : Ending) (w' : World) : Prop :=
  ∃ (A1 : Option Addr) (n1 c1 : Nat) (l : List Tb) (A2 : Option Addr) (n2 c2 : Nat) (r : List Ix) (ok : Bool), e = .returned (.tuple #[.agg #[.slice A1 n1 c1, .slice A2 n2 c2], .bool ok]) ∧ BkIn w' A1 n1 c1 l A2 n2 c2 r ∧ Below w.heap.size w w' ∧
    ((ok = true ∧ gBook bs = some (pbk l r, []) ∧ MayB (pbk l r)) ∨ (ok = false ∧ l = [] ∧ r = [] ∧ ¬ ∃ b, gBook bs = some (b, []) ∧ MayB b))
theorem rget_end {W : World} {R : Nat} {tm : Array Value} {Q : Ending → World → Prop} {A1 : Option Addr} {n1 c1 : Nat} {A2 : Option Addr} {n2 c2 : Nat} {ok : Bool} (hR : Blk W R 25 #[.slice A1 n1 c1, .slice A2 n2 c2])
    (h2 : tm[2]? = some (.pointer (some ⟨R, 0, none⟩))) (h3 : tm[3]? = some (.bool ok)) (h : Q (.returned (.tuple #[.agg #[.slice A1 n1 c1, .slice A2 n2 c2], .bool ok])) W) :
    bodyPost Try.prog Try.f26 Q Exit.ret { tmps := tm, defers := [] } W := by
  have q0 : W.cell? ⟨R, 0, none⟩ = _ := hR.cell 0
  have q1 : W.cell? ⟨R, 1, none⟩ = _ := hR.cell 1
  exact bodyPost_ret (v := .tuple #[.agg #[.slice A1 n1 c1, .slice A2 n2 c2], .bool ok]) (by simp [results, Try.results26, go_sem, h2, h3, q0, q1]) rfl h
theorem RetRG.no {w w' : World} {bs : List UInt8} (hb : Below w.heap.size w w') (h : ¬ ∃ b, gBook bs = some (b, []) ∧ MayB b) : RetRG w bs (.returned (.tuple #[.agg #[.slice none 0 0, .slice none 0 0], .bool false])) w' :=
  ⟨none, 0, 0, [], none, 0, 0, [], false, rfl, bk_nil12 w', hb, .inr ⟨rfl, rfl, rfl, h⟩⟩
set_option maxRecDepth 100000 in
set_option maxHeartbeats 64000000 in
theorem rgetB_any (bs : List UInt8) (w : World) (hlen : bs.length ≤ maxLen) :
    Calls Try.prog 26 #[.string (str bs)] w (RetRG w bs) := by
  obtain ⟨i0, hi0, hz0, hs0, hy0⟩ := int_info8 Try.infoT
  obtain ⟨i1, hi1, hz1, hs1, hy1⟩ := int_info8 Try.infoX
  have hst0 : St bs false := ⟨fun h => (by cases h), hlen⟩
  have N0 := Lib.hid fun W => rs_one bs false W hst0
  have HZ0 : Hid (RG w (w.heap.size + 1 + 1 + 1) (.slice none 0 0) 0 [] (.slice none 0 0) 0 [] bs false (((w.alloc (.cells #[.slice none 0 0, .slice none 0 0] 25)).alloc (.cells #[.string (str bs), .bool false] 123)).alloc (.cells #[.slice none 0 0, .slice none 0 0] 25))) := Lib.hid ⟨((Blk.newAt12 rfl).alloc _).alloc _, (Blk.newAt12 (by simp)).alloc _, Blk.newAt12 (by simp), ⟨rfl, .inl ⟨rfl, rfl⟩⟩, ⟨rfl, .inl ⟨rfl, rfl⟩⟩, fun kk e => (by cases e), fun t ht => (by cases ht), fun t ht => (by cases ht), ball (ball (ball (Below.refl _ _) _) _) _, Nat.le_refl _, by simp⟩
  clear hst0
  go_enter Try.func26, Try.ntmps26
  go_wp2_with fail
  refine (N0.out _).mono ?_
  rintro e w3 ⟨b3, r3, s3, rfl, st3, hl3, hb3⟩
  have P3 := (HZ0.out).call hb3
  have c30 : w3.cell? ⟨w.heap.size + 1, 0, none⟩ = _ := P3.G.cell 0
  have c31 : w3.cell? ⟨w.heap.size + 1, 1, none⟩ = _ := P3.G.cell 1
  have f30 := P3.G.frozen 0
  have f31 := P3.G.frozen 1
  have z3 := P3.T.lt
  have Q3 := P3.setG r3 s3
  have b30 : (0 : Int) ≤ (b3.toNat : Int) := by omega
  have b31 : (b3.toNat : Int) ≤ 255 := by have := b3.toNat_lt; omega
  have H3 := Lib.hid (And.intro hl3 (And.intro Q3 st3))
  clear P3 Q3 hb3 st3 hl3 N0 
  go_wp2
  go_loopw [7] (fun v wr => ∃ (k : Nat) (l : List Tb) (u : Value) (rk : List UInt8) (sk : Bool), k ≤ b3.toNat ∧ v = .int .i64 k ∧ RG w wr.heap.size u k l (.slice none 0 0) 0 [] rk sk wr ∧ l.length = k ∧ St rk sk ∧ Rel (gMany gTab k) r3 s3 (l.map Tb.pt) rk sk) (fun v _ => b3.toNat - (intOf v).toNat)
  case atStart => exact ⟨0, [], _, r3, s3, by omega, rfl, H3.out.2.1.turn rfl, rfl, H3.out.2.2, rel_many_nil _ _ _⟩
  case round =>
    clear c30 c31 f30 f31
    obtain ⟨wo, rfl⟩ : ∃ wo : World, wo = wr := ⟨_, rfl⟩
    obtain ⟨k, l, u, rk, sk, hk, rfl, hq, hcl, hst, hl⟩ := hrel
    have q0 : (0 : Int) ≤ (k : Int) := by omega
    have g0 : wo.cell? ⟨w.heap.size + 1, 0, none⟩ = some (.string (str rk)) := hq.G.cell 0
    have g1 : wo.cell? ⟨w.heap.size + 1, 1, none⟩ = some (.bool sk) := hq.G.cell 1
    have hzo := hq.T.lt
    have HQ := Lib.hid (And.intro hq (And.intro hcl (And.intro hst hl)))
    clear hq hcl hst hl
    by_cases hlt : k < b3.toNat
    · have q1 : (k : Int) < (b3.toNat : Int) := by omega
      have q2 : k < 255 := by omega
      cases sk
      · have CK := Lib.hid fun W => stable_any rk false W HQ.out.2.2.1
        go_wp2_with fail
        refine (CK.out _).mono ?_
        rintro e w4 ⟨q, r4, s4, rfl, hq4, hqA, st4, hl4, hb4⟩
        have P4 := ((HQ.out.1.call hb4).call (ball (Below.refl _ _) (.cells #[.string q.nm, .slice q.A q.n q.c, .int .u32 q.f, .int .i64 q.r, .int .i64 q.p] 62))).call (ball (Below.refl _ _) (.cells #[.string (str r4), .bool s4] 123))
        have c40 : ((w4.alloc (.cells #[.string q.nm, .slice q.A q.n q.c, .int .u32 q.f, .int .i64 q.r, .int .i64 q.p] 62)).alloc (.cells #[.string (str r4), .bool s4] 123)).cell? ⟨w.heap.size + 1, 0, none⟩ = _ := P4.G.cell 0
        have c41 : ((w4.alloc (.cells #[.string q.nm, .slice q.A q.n q.c, .int .u32 q.f, .int .i64 q.r, .int .i64 q.p] 62)).alloc (.cells #[.string (str r4), .bool s4] 123)).cell? ⟨w.heap.size + 1, 1, none⟩ = _ := P4.G.cell 1
        have f40 := P4.G.frozen 0
        have f41 := P4.G.frozen 1
        have PW := HQ.out.1.call hb4
        have z40 := PW.T.lt
        have z41 := PW.sz
        have z42 := PW.lb
        have z43 := HQ.out.1.T.lt
        have z44 := hb4.size
        have P5 := P4.setG r4 s4
        have t5 : ((((w4.alloc (.cells #[.string q.nm, .slice q.A q.n q.c, .int .u32 q.f, .int .i64 q.r, .int .i64 q.p] 62)).alloc (.cells #[.string (str r4), .bool s4] 123)).setCell ⟨w.heap.size + 1, 0, none⟩ (.string (str r4))).setCell ⟨w.heap.size + 1, 1, none⟩ (.bool s4)).cell? ⟨w.heap.size + 1 + 1, 0, none⟩ = some u := P5.T.cell 0
        have B4 := ((((Blk.new w4 62 #[.string q.nm, .slice q.A q.n q.c, .int .u32 q.f, .int .i64 q.r, .int .i64 q.p]).alloc (.cells #[.string (str r4), .bool s4] 123)).far (p := ⟨w.heap.size + 1, 0, none⟩) (by simp; omega) (.string (str r4))).far (p := ⟨w.heap.size + 1, 1, none⟩) (by simp; omega) (.bool s4))
        have m0 : ((((w4.alloc (.cells #[.string q.nm, .slice q.A q.n q.c, .int .u32 q.f, .int .i64 q.r, .int .i64 q.p] 62)).alloc (.cells #[.string (str r4), .bool s4] 123)).setCell ⟨w.heap.size + 1, 0, none⟩ (.string (str r4))).setCell ⟨w.heap.size + 1, 1, none⟩ (.bool s4)).cell? ⟨w4.heap.size, 0, none⟩ = some (.string q.nm) := B4.cell 0
        have m1 : ((((w4.alloc (.cells #[.string q.nm, .slice q.A q.n q.c, .int .u32 q.f, .int .i64 q.r, .int .i64 q.p] 62)).alloc (.cells #[.string (str r4), .bool s4] 123)).setCell ⟨w.heap.size + 1, 0, none⟩ (.string (str r4))).setCell ⟨w.heap.size + 1, 1, none⟩ (.bool s4)).cell? ⟨w4.heap.size, 1, none⟩ = some (.slice q.A q.n q.c) := B4.cell 1
        have m2 : ((((w4.alloc (.cells #[.string q.nm, .slice q.A q.n q.c, .int .u32 q.f, .int .i64 q.r, .int .i64 q.p] 62)).alloc (.cells #[.string (str r4), .bool s4] 123)).setCell ⟨w.heap.size + 1, 0, none⟩ (.string (str r4))).setCell ⟨w.heap.size + 1, 1, none⟩ (.bool s4)).cell? ⟨w4.heap.size, 2, none⟩ = some (.int .u32 q.f) := B4.cell 2
        have m3 : ((((w4.alloc (.cells #[.string q.nm, .slice q.A q.n q.c, .int .u32 q.f, .int .i64 q.r, .int .i64 q.p] 62)).alloc (.cells #[.string (str r4), .bool s4] 123)).setCell ⟨w.heap.size + 1, 0, none⟩ (.string (str r4))).setCell ⟨w.heap.size + 1, 1, none⟩ (.bool s4)).cell? ⟨w4.heap.size, 3, none⟩ = some (.int .i64 q.r) := B4.cell 3
        have m4 : ((((w4.alloc (.cells #[.string q.nm, .slice q.A q.n q.c, .int .u32 q.f, .int .i64 q.r, .int .i64 q.p] 62)).alloc (.cells #[.string (str r4), .bool s4] 123)).setCell ⟨w.heap.size + 1, 0, none⟩ (.string (str r4))).setCell ⟨w.heap.size + 1, 1, none⟩ (.bool s4)).cell? ⟨w4.heap.size, 4, none⟩ = some (.int .i64 q.p) := B4.cell 4
        have hs5 : ((((w4.alloc (.cells #[.string q.nm, .slice q.A q.n q.c, .int .u32 q.f, .int .i64 q.r, .int .i64 q.p] 62)).alloc (.cells #[.string (str r4), .bool s4] 123)).setCell ⟨w.heap.size + 1, 0, none⟩ (.string (str r4))).setCell ⟨w.heap.size + 1, 1, none⟩ (.bool s4)).heap.size = w4.heap.size + 1 + 1 := by simp [World.setCell]
        have hq5 : TbOk ((((w4.alloc (.cells #[.string q.nm, .slice q.A q.n q.c, .int .u32 q.f, .int .i64 q.r, .int .i64 q.p] 62)).alloc (.cells #[.string (str r4), .bool s4] 123)).setCell ⟨w.heap.size + 1, 0, none⟩ (.string (str r4))).setCell ⟨w.heap.size + 1, 1, none⟩ (.bool s4)) ((((w4.alloc (.cells #[.string q.nm, .slice q.A q.n q.c, .int .u32 q.f, .int .i64 q.r, .int .i64 q.p] 62)).alloc (.cells #[.string (str r4), .bool s4] 123)).setCell ⟨w.heap.size + 1, 0, none⟩ (.string (str r4))).setCell ⟨w.heap.size + 1, 1, none⟩ (.bool s4)).heap.size q := hq4.stay (by rw [hs5]; omega) (fun hn ad ha => by
          have h1 := reads_lt hq4.1.2.2.1 hn ad ha
          have h2 := hqA ad ha
          exact (Below.heap_setCell _ _ _ _ (by simp; omega)).trans ((Below.heap_setCell _ _ _ _ (by simp; omega)).trans ((Below.heap_alloc _ _ _ (by simp; omega)).trans (Below.heap_alloc _ _ _ h1))))
        have hqF : 0 < q.n → ∀ ad, q.A = some ad → w.heap.size + 1 + 1 < ad.block ∧ u.ownBlock ≠ some ad.block := fun hn ad ha => by
          have h2 := hqA ad ha
          exact ⟨by omega, fun e => by have := (World.ownsRow.lt HQ.out.1.own1 _ e).2; omega⟩
        have H5 := Lib.hid (And.intro hl4 (And.intro P5 (And.intro st4 (And.intro hq5 hqF))))
        clear P4 P5 PW B4 hb4 st4 hl4 hq5 hqF hq4 hqA CK g0 g1
        go_wp2_with (at_builtin; refine wpList_pushR12 (news := [.string q.nm, .slice q.A q.n q.c, .int .u32 q.f, .int .i64 q.r, .int .i64 q.p]) rfl (.tmp 39) (.tmp 41) 22 rfl (w.heap.size + 1 + 1 + 1) 62 i0 _ 5 64 Try.underlying22 hi0 hz0 hs0 hy0 rfl (by decide) u k _ (by first | rfl | (simp [Act.eval, Act.put]; done)) H5.out.2.1.own1 rfl _ (by first | rfl | (simp [Act.eval, Act.put]; done)) (by simp [World.setCell]) rfl (by intro u hu; simp only [List.mem_cons, List.not_mem_nil, or_false] at hu; rcases hu with rfl | rfl | rfl | rfl | rfl <;> rfl) (by omega) (by omega) (by simp [World.setCell]; omega) ?_; intro v8 w8 own8 kp8 ob8; obtain ⟨A9, cc9, rfl, hcc9⟩ := own_form own8; have T9 := blk_far_own (World.ownsRow.alloc H5.out.2.1.own1 _) (H5.out.2.1.T.alloc _) kp8 (by omega); have c9 : w8.cell? ⟨w.heap.size + 1 + 1, 0, none⟩ = some u := T9.cell 0; have f9 : w8.frozen? ⟨w.heap.size + 1 + 1, 0, none⟩ = false := T9.frozen 0; have z9 := T9.lt; have H8 := Lib.hid (And.intro own8 (And.intro kp8 ob8)); clear own8 kp8 ob8 T9)
        exact ⟨⟨k + 1, l ++ [q], .slice A9 (k + 1) cc9, r4, s4, by omega, by go_num, H5.out.2.1.pushT H5.out.2.2.2.1 H5.out.2.2.2.2 H8.out.1 H8.out.2.1 H8.out.2.2, by simp [HQ.out.2.1], H5.out.2.2.1, by rw [List.map_append]; exact HQ.out.2.2.2.snoc H5.out.1⟩, by simp [intOf]; omega⟩
      · have HX : Rel (gMany gTab b3.toNat) r3 s3 (l.map Tb.pt) rk true := rel_short HQ.out.2.2.2 hk
        obtain ⟨A1, c1, rfl, hc1⟩ := own_form HQ.out.1.own1
        have HC := Lib.hid (And.intro hc1 HX)
        have N5 := Lib.hid fun W => rs_one rk true W HQ.out.2.2.1
        clear hc1 HX
        obtain ⟨n1, rfl⟩ : ∃ n1 : Nat, n1 = k := ⟨_, rfl⟩
        go_wp2_with fail
        refine (N5.out _).mono ?_
        rintro e w4 ⟨b4, r4, s4, rfl, st4, hl4, hb4⟩
        have P4 := (HQ.out.1).call hb4
        have c40 : w4.cell? ⟨w.heap.size + 1, 0, none⟩ = _ := P4.G.cell 0
        have c41 : w4.cell? ⟨w.heap.size + 1, 1, none⟩ = _ := P4.G.cell 1
        have f40 := P4.G.frozen 0
        have f41 := P4.G.frozen 1
        have z4 := P4.T.lt
        have Q4 := P4.setG r4 s4
        have b40 : (0 : Int) ≤ (b4.toNat : Int) := by omega
        have b41 : (b4.toNat : Int) ≤ 255 := by have := b4.toNat_lt; omega
        have H4 := Lib.hid (And.intro hl4 (And.intro Q4 st4))
        clear P4 Q4 hb4 st4 hl4 N5 g0 g1
        have P7 := H4.out.2.1.turn rfl
        go_wp2
        obtain ⟨WB, hWB⟩ : ∃ WB, ((w4.setCell ⟨w.heap.size + 1, 0, none⟩ (.string (str r4))).setCell ⟨w.heap.size + 1, 1, none⟩ (.bool s4)).heap.size = WB := ⟨_, rfl⟩
        rw [hWB] at P7
        clear hWB
        go_loopw [11] (fun v wr => ∃ (k : Nat) (xs : List Ix) (u : Value) (rk : List UInt8) (sk : Bool), k ≤ b4.toNat ∧ v = .int .i64 k ∧ RG w WB (.slice A1 n1 c1) n1 l u k xs rk sk wr ∧ xs.length = k ∧ St rk sk ∧ Rel (gMany gIdx k) r4 s4 (xs.map Ix.px) rk sk) (fun v _ => b4.toNat - (intOf v).toNat)
        case atStart => exact ⟨0, [], _, r4, s4, by omega, rfl, P7, rfl, H4.out.2.2, rel_many_nil _ _ _⟩
        case round =>
          clear c40 c41 f40 f41 P7
          obtain ⟨wq, rfl⟩ : ∃ wq : World, wq = wo := ⟨_, rfl⟩
          obtain ⟨wo, rfl⟩ : ∃ wo : World, wo = wr := ⟨_, rfl⟩
          obtain ⟨k, xs, u, rk, sk, hk, rfl, hq, hcl, hst, hl⟩ := hrel
          have q0 : (0 : Int) ≤ (k : Int) := by omega
          have g0 : wo.cell? ⟨w.heap.size + 1, 0, none⟩ = some (.string (str rk)) := hq.G.cell 0
          have g1 : wo.cell? ⟨w.heap.size + 1, 1, none⟩ = some (.bool sk) := hq.G.cell 1
          have hzo := hq.T.lt
          have HK := Lib.hid (And.intro hq (And.intro hcl (And.intro hst hl)))
          clear hq hcl hst hl
          by_cases hlt : k < b4.toNat
          · have q1 : (k : Int) < (b4.toNat : Int) := by omega
            have q2 : k < 255 := by omega
            cases sk
            · have H4R := H4
              have HQ := HK
              have CK := Lib.hid fun W => sindex_any rk false W HK.out.2.2.1
              clear H4
              go_wp2_with fail
              refine (CK.out _).mono ?_
              rintro e w4 ⟨q, r4, s4, rfl, hq4, hqA, hqB, st4, hl4, hb4⟩
              have P4 := ((HQ.out.1.call hb4).call (ball (Below.refl _ _) (.cells #[.string q.nm, .int .i64 q.tb, .slice q.A q.n q.c, .int .u32 q.root, .int .i64 q.lv, .int .i64 q.hi, .slice q.B q.m q.e] 67))).call (ball (Below.refl _ _) (.cells #[.string (str r4), .bool s4] 123))
              have c40 : ((w4.alloc (.cells #[.string q.nm, .int .i64 q.tb, .slice q.A q.n q.c, .int .u32 q.root, .int .i64 q.lv, .int .i64 q.hi, .slice q.B q.m q.e] 67)).alloc (.cells #[.string (str r4), .bool s4] 123)).cell? ⟨w.heap.size + 1, 0, none⟩ = _ := P4.G.cell 0
              have c41 : ((w4.alloc (.cells #[.string q.nm, .int .i64 q.tb, .slice q.A q.n q.c, .int .u32 q.root, .int .i64 q.lv, .int .i64 q.hi, .slice q.B q.m q.e] 67)).alloc (.cells #[.string (str r4), .bool s4] 123)).cell? ⟨w.heap.size + 1, 1, none⟩ = _ := P4.G.cell 1
              have f40 := P4.G.frozen 0
              have f41 := P4.G.frozen 1
              have PW := HQ.out.1.call hb4
              have z40 := PW.T.lt
              have z41 := PW.sz
              have z42 := PW.lb
              have z43 := HQ.out.1.T.lt
              have z44 := hb4.size
              have P5 := P4.setG r4 s4
              have t5 : ((((w4.alloc (.cells #[.string q.nm, .int .i64 q.tb, .slice q.A q.n q.c, .int .u32 q.root, .int .i64 q.lv, .int .i64 q.hi, .slice q.B q.m q.e] 67)).alloc (.cells #[.string (str r4), .bool s4] 123)).setCell ⟨w.heap.size + 1, 0, none⟩ (.string (str r4))).setCell ⟨w.heap.size + 1, 1, none⟩ (.bool s4)).cell? ⟨w.heap.size + 1 + 1, 1, none⟩ = some u := P5.T.cell 1
              have B4 := ((((Blk.new w4 67 #[.string q.nm, .int .i64 q.tb, .slice q.A q.n q.c, .int .u32 q.root, .int .i64 q.lv, .int .i64 q.hi, .slice q.B q.m q.e]).alloc (.cells #[.string (str r4), .bool s4] 123)).far (p := ⟨w.heap.size + 1, 0, none⟩) (by simp; omega) (.string (str r4))).far (p := ⟨w.heap.size + 1, 1, none⟩) (by simp; omega) (.bool s4))
              have m0 : ((((w4.alloc (.cells #[.string q.nm, .int .i64 q.tb, .slice q.A q.n q.c, .int .u32 q.root, .int .i64 q.lv, .int .i64 q.hi, .slice q.B q.m q.e] 67)).alloc (.cells #[.string (str r4), .bool s4] 123)).setCell ⟨w.heap.size + 1, 0, none⟩ (.string (str r4))).setCell ⟨w.heap.size + 1, 1, none⟩ (.bool s4)).cell? ⟨w4.heap.size, 0, none⟩ = some (.string q.nm) := B4.cell 0
              have m1 : ((((w4.alloc (.cells #[.string q.nm, .int .i64 q.tb, .slice q.A q.n q.c, .int .u32 q.root, .int .i64 q.lv, .int .i64 q.hi, .slice q.B q.m q.e] 67)).alloc (.cells #[.string (str r4), .bool s4] 123)).setCell ⟨w.heap.size + 1, 0, none⟩ (.string (str r4))).setCell ⟨w.heap.size + 1, 1, none⟩ (.bool s4)).cell? ⟨w4.heap.size, 1, none⟩ = some (.int .i64 q.tb) := B4.cell 1
              have m2 : ((((w4.alloc (.cells #[.string q.nm, .int .i64 q.tb, .slice q.A q.n q.c, .int .u32 q.root, .int .i64 q.lv, .int .i64 q.hi, .slice q.B q.m q.e] 67)).alloc (.cells #[.string (str r4), .bool s4] 123)).setCell ⟨w.heap.size + 1, 0, none⟩ (.string (str r4))).setCell ⟨w.heap.size + 1, 1, none⟩ (.bool s4)).cell? ⟨w4.heap.size, 2, none⟩ = some (.slice q.A q.n q.c) := B4.cell 2
              have m3 : ((((w4.alloc (.cells #[.string q.nm, .int .i64 q.tb, .slice q.A q.n q.c, .int .u32 q.root, .int .i64 q.lv, .int .i64 q.hi, .slice q.B q.m q.e] 67)).alloc (.cells #[.string (str r4), .bool s4] 123)).setCell ⟨w.heap.size + 1, 0, none⟩ (.string (str r4))).setCell ⟨w.heap.size + 1, 1, none⟩ (.bool s4)).cell? ⟨w4.heap.size, 3, none⟩ = some (.int .u32 q.root) := B4.cell 3
              have m4 : ((((w4.alloc (.cells #[.string q.nm, .int .i64 q.tb, .slice q.A q.n q.c, .int .u32 q.root, .int .i64 q.lv, .int .i64 q.hi, .slice q.B q.m q.e] 67)).alloc (.cells #[.string (str r4), .bool s4] 123)).setCell ⟨w.heap.size + 1, 0, none⟩ (.string (str r4))).setCell ⟨w.heap.size + 1, 1, none⟩ (.bool s4)).cell? ⟨w4.heap.size, 4, none⟩ = some (.int .i64 q.lv) := B4.cell 4
              have m5 : ((((w4.alloc (.cells #[.string q.nm, .int .i64 q.tb, .slice q.A q.n q.c, .int .u32 q.root, .int .i64 q.lv, .int .i64 q.hi, .slice q.B q.m q.e] 67)).alloc (.cells #[.string (str r4), .bool s4] 123)).setCell ⟨w.heap.size + 1, 0, none⟩ (.string (str r4))).setCell ⟨w.heap.size + 1, 1, none⟩ (.bool s4)).cell? ⟨w4.heap.size, 5, none⟩ = some (.int .i64 q.hi) := B4.cell 5
              have m6 : ((((w4.alloc (.cells #[.string q.nm, .int .i64 q.tb, .slice q.A q.n q.c, .int .u32 q.root, .int .i64 q.lv, .int .i64 q.hi, .slice q.B q.m q.e] 67)).alloc (.cells #[.string (str r4), .bool s4] 123)).setCell ⟨w.heap.size + 1, 0, none⟩ (.string (str r4))).setCell ⟨w.heap.size + 1, 1, none⟩ (.bool s4)).cell? ⟨w4.heap.size, 6, none⟩ = some (.slice q.B q.m q.e) := B4.cell 6
              have hs5 : ((((w4.alloc (.cells #[.string q.nm, .int .i64 q.tb, .slice q.A q.n q.c, .int .u32 q.root, .int .i64 q.lv, .int .i64 q.hi, .slice q.B q.m q.e] 67)).alloc (.cells #[.string (str r4), .bool s4] 123)).setCell ⟨w.heap.size + 1, 0, none⟩ (.string (str r4))).setCell ⟨w.heap.size + 1, 1, none⟩ (.bool s4)).heap.size = w4.heap.size + 1 + 1 := by simp [World.setCell]
              have hq5 : IxIn ((((w4.alloc (.cells #[.string q.nm, .int .i64 q.tb, .slice q.A q.n q.c, .int .u32 q.root, .int .i64 q.lv, .int .i64 q.hi, .slice q.B q.m q.e] 67)).alloc (.cells #[.string (str r4), .bool s4] 123)).setCell ⟨w.heap.size + 1, 0, none⟩ (.string (str r4))).setCell ⟨w.heap.size + 1, 1, none⟩ (.bool s4)) ((((w4.alloc (.cells #[.string q.nm, .int .i64 q.tb, .slice q.A q.n q.c, .int .u32 q.root, .int .i64 q.lv, .int .i64 q.hi, .slice q.B q.m q.e] 67)).alloc (.cells #[.string (str r4), .bool s4] 123)).setCell ⟨w.heap.size + 1, 0, none⟩ (.string (str r4))).setCell ⟨w.heap.size + 1, 1, none⟩ (.bool s4)).heap.size q := hq4.stay (by rw [hs5]; omega) (fun hn ad ha => by
                have h1 := reads_lt hq4.2.1 hn ad ha
                have h2 := hqA ad ha
                exact (Below.heap_setCell _ _ _ _ (by simp; omega)).trans ((Below.heap_setCell _ _ _ _ (by simp; omega)).trans ((Below.heap_alloc _ _ _ (by simp; omega)).trans (Below.heap_alloc _ _ _ h1)))) (fun hn ad ha => by
                have h1 := reads_lt hq4.2.2.1 hn ad ha
                have h2 := hqB ad ha
                exact (Below.heap_setCell _ _ _ _ (by simp; omega)).trans ((Below.heap_setCell _ _ _ _ (by simp; omega)).trans ((Below.heap_alloc _ _ _ (by simp; omega)).trans (Below.heap_alloc _ _ _ h1))))
              have hu1 := fun b e => (World.ownsRow.lt HQ.out.1.own1 b e).2
              have hu2 := fun b e => (World.ownsRow.lt HQ.out.1.own2 b e).2
              have hqF : (0 < q.n → ∀ ad, q.A = some ad → w.heap.size + 1 + 1 < ad.block ∧ (Value.slice A1 n1 c1).ownBlock ≠ some ad.block ∧ u.ownBlock ≠ some ad.block) ∧ (0 < q.m → ∀ ad, q.B = some ad → w.heap.size + 1 + 1 < ad.block ∧ (Value.slice A1 n1 c1).ownBlock ≠ some ad.block ∧ u.ownBlock ≠ some ad.block) :=
                ⟨fun hn ad ha => ⟨by have := hqA ad ha; omega, fun e => by have := hu1 _ e; have := hqA ad ha; omega, fun e => by have := hu2 _ e; have := hqA ad ha; omega⟩, fun hn ad ha => ⟨by have := hqB ad ha; omega, fun e => by have := hu1 _ e; have := hqB ad ha; omega, fun e => by have := hu2 _ e; have := hqB ad ha; omega⟩⟩
              have H5 := Lib.hid (And.intro hl4 (And.intro P5 (And.intro st4 (And.intro hq5 hqF))))
              clear P4 P5 PW B4 hb4 st4 hl4 hq5 hqF hq4 hqA hqB hu1 hu2 CK g0 g1
              go_wp2_with (at_builtin; refine wpList_pushR12 (news := [.string q.nm, .int .i64 q.tb, .slice q.A q.n q.c, .int .u32 q.root, .int .i64 q.lv, .int .i64 q.hi, .slice q.B q.m q.e]) rfl (.tmp 66) (.tmp 68) 23 rfl WB 67 i1 _ 7 96 Try.underlying23 hi1 hz1 hs1 hy1 rfl (by decide) u k _ (by first | rfl | (simp [Act.eval, Act.put]; done)) H5.out.2.1.own2 rfl _ (by first | rfl | (simp [Act.eval, Act.put]; done)) (by simp [World.setCell]) rfl (by intro u hu; simp only [List.mem_cons, List.not_mem_nil, or_false] at hu; rcases hu with rfl | rfl | rfl | rfl | rfl | rfl | rfl <;> rfl) (by omega) (by omega) (by simp [World.setCell]; omega) ?_; intro v8 w8 own8 kp8 ob8; obtain ⟨A9, cc9, rfl, hcc9⟩ := own_form own8; have T9 := blk_far_own (World.ownsRow.alloc H5.out.2.1.own2 _) (H5.out.2.1.T.alloc _) kp8 (by omega); have c9 : w8.cell? ⟨w.heap.size + 1 + 1, 1, none⟩ = some u := T9.cell 1; have f9 : w8.frozen? ⟨w.heap.size + 1 + 1, 1, none⟩ = false := T9.frozen 1; have z9 := T9.lt; have H8 := Lib.hid (And.intro own8 (And.intro kp8 ob8)); clear own8 kp8 ob8 T9)
              exact ⟨⟨k + 1, xs ++ [q], .slice A9 (k + 1) cc9, r4, s4, by omega, by go_num, H5.out.2.1.pushX H5.out.2.2.2.1 H5.out.2.2.2.2.1 H5.out.2.2.2.2.2 H8.out.1 H8.out.2.1 H8.out.2.2, by simp [HQ.out.2.1], H5.out.2.2.1, by rw [List.map_append]; exact HQ.out.2.2.2.snoc H5.out.1⟩, by simp [intOf]; omega⟩
            · have HY : Rel (gMany gIdx b4.toNat) r4 s4 (xs.map Ix.px) rk true := rel_short HK.out.2.2.2 hk
              obtain ⟨A2, c2, rfl, hc2⟩ := own_form HK.out.1.own2
              have PK := HK.out.1
              have BK : BkIn wo A1 n1 c1 l A2 k c2 xs := ⟨Reads.of_own PK.own1, fun t ht => (PK.hl t ht).1, Reads.of_own PK.own2, fun x hx => (PK.hx x hx).1, ⟨HC.out.1, own_cap12 PK.own1⟩, ⟨hc2, own_cap12 PK.own2⟩⟩
              have HF : Hid ((∀ ad, A1 = some ad → w.heap.size < ad.block) ∧ (∀ t ∈ l, 0 < t.n → ∀ ad, t.A = some ad → w.heap.size < ad.block) ∧ (∀ ad, A2 = some ad → w.heap.size < ad.block) ∧ ∀ x ∈ xs, (0 < x.n → ∀ ad, x.A = some ad → w.heap.size < ad.block) ∧ (0 < x.m → ∀ ad, x.B = some ad → w.heap.size < ad.block)) := Lib.hid ⟨fun ad ha => by have := own_addr PK.own1 ad ha; omega, fun t ht hn ad ha => by have := ((PK.hl t ht).2 hn ad ha).1; omega, fun ad ha => by have := own_addr PK.own2 ad ha; have := PK.lb; omega, fun x hx => ⟨fun hn ad ha => by have := ((PK.hx x hx).2.1 hn ad ha).1; omega, fun hn ad ha => by have := ((PK.hx x hx).2.2 hn ad ha).1; omega⟩⟩
              have hBook := rel_book H3.out.1 HC.out.2 H4.out.1 HY
              have hB := fun hs => hBook.2 hs
              have t0 : wo.cell? ⟨w.heap.size + 1 + 1, 0, none⟩ = some (.slice A1 n1 c1) := PK.T.cell 0
              have t1 : wo.cell? ⟨w.heap.size + 1 + 1, 1, none⟩ = some (.slice A2 k c2) := PK.T.cell 1
              have y0 : wo.cell? ⟨w.heap.size, 0, none⟩ = some (.slice none 0 0) := PK.Z.cell 0
              have y1 : wo.cell? ⟨w.heap.size, 1, none⟩ = some (.slice none 0 0) := PK.Z.cell 1
              have v0 := PK.Z.frozen 0
              have v1 := PK.Z.frozen 1
              have zR := PK.Z.lt
              have hrz : ((str rk).size : Int) = (rk.length : Int) := by rw [str_size]
              have HZ := Lib.hid (And.intro PK.b (And.intro PK.Z (And.intro PK.T BK)))
              have NO : (true = true ∨ 0 < rk.length) → ¬ ∃ b, gBook bs = some (b, []) ∧ MayB b := fun h => by
                rintro ⟨b, e1, _⟩
                rcases hB rfl with ⟨e2, e3⟩ | ⟨e2, e3⟩
                · rw [e3] at e1; cases e1
                · rw [e3] at e1
                  injection e1 with e1
                  injection e1 with _ e4
                  rcases h with h | h
                  · rw [h] at e2; cases e2
                  · rw [e4] at h; simp at h
              have HNO := Lib.hid NO
              have HBO := Lib.hid (hB rfl)
              clear NO hB hBook PK BK HY
              clear HBO hrz
              go_wp2
              exact rget_end ((HZ.out.2.1.set_ 0 (.slice none 0 0)).set_ 1 (.slice none 0 0)) (by simp) (by simp) (RetRG.no ((HZ.out.1.setCell (Nat.le_refl _) _).setCell (Nat.le_refl _) _) (HNO.out (.inl (by first | rfl | trivial))))
          · have hkb : k = b4.toNat := by omega
            have e9 : decide ((k : Int) < (b4.toNat : Int)) = false := by simp; omega
            have HY : Rel (gMany gIdx b4.toNat) r4 s4 (xs.map Ix.px) rk sk := hkb ▸ HK.out.2.2.2
            clear hkb
            obtain ⟨A2, c2, rfl, hc2⟩ := own_form HK.out.1.own2
            have PK := HK.out.1
            have BK : BkIn wo A1 n1 c1 l A2 k c2 xs := ⟨Reads.of_own PK.own1, fun t ht => (PK.hl t ht).1, Reads.of_own PK.own2, fun x hx => (PK.hx x hx).1, ⟨HC.out.1, own_cap12 PK.own1⟩, ⟨hc2, own_cap12 PK.own2⟩⟩
            have HF : Hid ((∀ ad, A1 = some ad → w.heap.size < ad.block) ∧ (∀ t ∈ l, 0 < t.n → ∀ ad, t.A = some ad → w.heap.size < ad.block) ∧ (∀ ad, A2 = some ad → w.heap.size < ad.block) ∧ ∀ x ∈ xs, (0 < x.n → ∀ ad, x.A = some ad → w.heap.size < ad.block) ∧ (0 < x.m → ∀ ad, x.B = some ad → w.heap.size < ad.block)) := Lib.hid ⟨fun ad ha => by have := own_addr PK.own1 ad ha; omega, fun t ht hn ad ha => by have := ((PK.hl t ht).2 hn ad ha).1; omega, fun ad ha => by have := own_addr PK.own2 ad ha; have := PK.lb; omega, fun x hx => ⟨fun hn ad ha => by have := ((PK.hx x hx).2.1 hn ad ha).1; omega, fun hn ad ha => by have := ((PK.hx x hx).2.2 hn ad ha).1; omega⟩⟩
            have hBook := rel_book H3.out.1 HC.out.2 H4.out.1 HY
            have hB := fun hs => hBook.2 hs
            have t0 : wo.cell? ⟨w.heap.size + 1 + 1, 0, none⟩ = some (.slice A1 n1 c1) := PK.T.cell 0
            have t1 : wo.cell? ⟨w.heap.size + 1 + 1, 1, none⟩ = some (.slice A2 k c2) := PK.T.cell 1
            have y0 : wo.cell? ⟨w.heap.size, 0, none⟩ = some (.slice none 0 0) := PK.Z.cell 0
            have y1 : wo.cell? ⟨w.heap.size, 1, none⟩ = some (.slice none 0 0) := PK.Z.cell 1
            have v0 := PK.Z.frozen 0
            have v1 := PK.Z.frozen 1
            have zR := PK.Z.lt
            have hrz : ((str rk).size : Int) = (rk.length : Int) := by rw [str_size]
            have HZ := Lib.hid (And.intro PK.b (And.intro PK.Z (And.intro PK.T BK)))
            have NO : (sk = true ∨ 0 < rk.length) → ¬ ∃ b, gBook bs = some (b, []) ∧ MayB b := fun h => by
              rintro ⟨b, e1, _⟩
              rcases hB rfl with ⟨e2, e3⟩ | ⟨e2, e3⟩
              · rw [e3] at e1; cases e1
              · rw [e3] at e1
                injection e1 with e1
                injection e1 with _ e4
                rcases h with h | h
                · rw [h] at e2; cases e2
                · rw [e4] at h; simp at h
            have HNO := Lib.hid NO
            have HBO := Lib.hid (hB rfl)
            clear NO hB hBook PK BK HY
            cases sk with
            | true =>
              clear HBO hrz
              go_wp2
              exact rget_end ((HZ.out.2.1.set_ 0 (.slice none 0 0)).set_ 1 (.slice none 0 0)) (by simp) (by simp) (RetRG.no ((HZ.out.1.setCell (Nat.le_refl _) _).setCell (Nat.le_refl _) _) (HNO.out (.inl (by first | rfl | trivial))))
            | false =>
              by_cases hm : 0 < rk.length
              · have hmI : (0 : Int) < ((str rk).size : Int) := by omega
                have hmN : 0 < (str rk).size := by omega
                clear HBO hrz
                go_wp2
                exact rget_end ((HZ.out.2.1.set_ 0 (.slice none 0 0)).set_ 1 (.slice none 0 0)) (by simp) (by simp) (RetRG.no ((HZ.out.1.setCell (Nat.le_refl _) _).setCell (Nat.le_refl _) _) (HNO.out (.inr hm)))
              · have hrk : rk = [] := List.eq_nil_of_length_eq_zero (by omega)
                have hgb : gBook bs = some (pbk l xs, []) := by
                  rcases HBO.out with ⟨e2, e3⟩ | ⟨e2, e3⟩
                  · cases e2
                  · rw [e3, hrk]; rfl
                have hmI : ((str rk).size : Int) = 0 := by omega
                have hmN : (str rk).size = 0 := by omega
                have HGB := Lib.hid hgb
                have MY := Lib.hid (rmay_any A1 n1 c1 l A2 k c2 xs wo HZ.out.2.2.2)
                clear hrk hgb HBO HNO hm
                go_wp2_with fail
                refine MY.out.mono ?_
                rintro e w7 ⟨b, rfl, hbm, hb7⟩
                have R7 := HZ.out.2.1.below hb7 zR
                have T7 := HZ.out.2.2.1.below hb7 HZ.out.2.2.1.lt
                have p0 : w7.cell? ⟨w.heap.size, 0, none⟩ = some (.slice none 0 0) := R7.cell 0
                have p1 : w7.cell? ⟨w.heap.size, 1, none⟩ = some (.slice none 0 0) := R7.cell 1
                have h0 := R7.frozen 0
                have h1 := R7.frozen 1
                have o0 : w7.cell? ⟨w.heap.size + 1 + 1, 0, none⟩ = some (.slice A1 n1 c1) := T7.cell 0
                have o1 : w7.cell? ⟨w.heap.size + 1 + 1, 1, none⟩ = some (.slice A2 k c2) := T7.cell 1
                have z7 := R7.lt
                have H7 := Lib.hid (And.intro hbm (And.intro (HZ.out.1.trans (hb7.mono (by omega))) (And.intro R7 (HZ.out.2.2.2.below hb7))))
                clear hbm hb7 R7 T7 y0 y1 g0 g1 v0 v1 t0 t1
                cases b with
                | false =>
                  go_wp2
                  refine rget_end ((H7.out.2.2.1.set_ 0 (.slice none 0 0)).set_ 1 (.slice none 0 0)) (by simp) (by simp) (RetRG.no ((H7.out.2.1.setCell (Nat.le_refl _) _).setCell (Nat.le_refl _) _) ?_)
                  rintro ⟨b, e1, e2⟩
                  rw [HGB.out] at e1
                  injection e1 with e1
                  injection e1 with e1 _
                  subst e1
                  exact absurd (H7.out.1.2 e2) (by decide)
                | true =>
                  go_wp2
                  refine rget_end ((H7.out.2.2.1.set_ 0 (.slice A1 n1 c1)).set_ 1 (.slice A2 k c2)) (by simp) (by simp) ⟨A1, n1, c1, l, A2, k, c2, xs, true, rfl, ?_, (H7.out.2.1.setCell (Nat.le_refl _) _).setCell (Nat.le_refl _) _, .inl ⟨rfl, HGB.out, H7.out.1.1 (by first | rfl | trivial)⟩⟩
                  exact (H7.out.2.2.2.far HF.out.1 HF.out.2.1 HF.out.2.2.1 HF.out.2.2.2 0 _).far HF.out.1 HF.out.2.1 HF.out.2.2.1 HF.out.2.2.2 1 _
    · have hkb : k = b3.toNat := by omega
      have e9 : decide ((k : Int) < (b3.toNat : Int)) = false := by simp; omega
      have HX : Rel (gMany gTab b3.toNat) r3 s3 (l.map Tb.pt) rk sk := hkb ▸ HQ.out.2.2.2
      clear hkb
      obtain ⟨A1, c1, rfl, hc1⟩ := own_form HQ.out.1.own1
      have HC := Lib.hid (And.intro hc1 HX)
      have N5 := Lib.hid fun W => rs_one rk sk W HQ.out.2.2.1
      clear hc1 HX
      obtain ⟨n1, rfl⟩ : ∃ n1 : Nat, n1 = k := ⟨_, rfl⟩
      go_wp2_with fail
      refine (N5.out _).mono ?_
      rintro e w4 ⟨b4, r4, s4, rfl, st4, hl4, hb4⟩
      have P4 := (HQ.out.1).call hb4
      have c40 : w4.cell? ⟨w.heap.size + 1, 0, none⟩ = _ := P4.G.cell 0
      have c41 : w4.cell? ⟨w.heap.size + 1, 1, none⟩ = _ := P4.G.cell 1
      have f40 := P4.G.frozen 0
      have f41 := P4.G.frozen 1
      have z4 := P4.T.lt
      have Q4 := P4.setG r4 s4
      have b40 : (0 : Int) ≤ (b4.toNat : Int) := by omega
      have b41 : (b4.toNat : Int) ≤ 255 := by have := b4.toNat_lt; omega
      have H4 := Lib.hid (And.intro hl4 (And.intro Q4 st4))
      clear P4 Q4 hb4 st4 hl4 N5 g0 g1
      have P7 := H4.out.2.1.turn rfl
      go_wp2
      obtain ⟨WB, hWB⟩ : ∃ WB, ((w4.setCell ⟨w.heap.size + 1, 0, none⟩ (.string (str r4))).setCell ⟨w.heap.size + 1, 1, none⟩ (.bool s4)).heap.size = WB := ⟨_, rfl⟩
      rw [hWB] at P7
      clear hWB
      go_loopw [11] (fun v wr => ∃ (k : Nat) (xs : List Ix) (u : Value) (rk : List UInt8) (sk : Bool), k ≤ b4.toNat ∧ v = .int .i64 k ∧ RG w WB (.slice A1 n1 c1) n1 l u k xs rk sk wr ∧ xs.length = k ∧ St rk sk ∧ Rel (gMany gIdx k) r4 s4 (xs.map Ix.px) rk sk) (fun v _ => b4.toNat - (intOf v).toNat)
      case atStart => exact ⟨0, [], _, r4, s4, by omega, rfl, P7, rfl, H4.out.2.2, rel_many_nil _ _ _⟩
      case round =>
        clear c40 c41 f40 f41 P7
        obtain ⟨wq, rfl⟩ : ∃ wq : World, wq = wo := ⟨_, rfl⟩
        obtain ⟨wo, rfl⟩ : ∃ wo : World, wo = wr := ⟨_, rfl⟩
        obtain ⟨k, xs, u, rk, sk, hk, rfl, hq, hcl, hst, hl⟩ := hrel
        have q0 : (0 : Int) ≤ (k : Int) := by omega
        have g0 : wo.cell? ⟨w.heap.size + 1, 0, none⟩ = some (.string (str rk)) := hq.G.cell 0
        have g1 : wo.cell? ⟨w.heap.size + 1, 1, none⟩ = some (.bool sk) := hq.G.cell 1
        have hzo := hq.T.lt
        have HK := Lib.hid (And.intro hq (And.intro hcl (And.intro hst hl)))
        clear hq hcl hst hl
        by_cases hlt : k < b4.toNat
        · have q1 : (k : Int) < (b4.toNat : Int) := by omega
          have q2 : k < 255 := by omega
          cases sk
          · have H4R := H4
            have HQ := HK
            have CK := Lib.hid fun W => sindex_any rk false W HK.out.2.2.1
            clear H4
            go_wp2_with fail
            refine (CK.out _).mono ?_
            rintro e w4 ⟨q, r4, s4, rfl, hq4, hqA, hqB, st4, hl4, hb4⟩
            have P4 := ((HQ.out.1.call hb4).call (ball (Below.refl _ _) (.cells #[.string q.nm, .int .i64 q.tb, .slice q.A q.n q.c, .int .u32 q.root, .int .i64 q.lv, .int .i64 q.hi, .slice q.B q.m q.e] 67))).call (ball (Below.refl _ _) (.cells #[.string (str r4), .bool s4] 123))
            have c40 : ((w4.alloc (.cells #[.string q.nm, .int .i64 q.tb, .slice q.A q.n q.c, .int .u32 q.root, .int .i64 q.lv, .int .i64 q.hi, .slice q.B q.m q.e] 67)).alloc (.cells #[.string (str r4), .bool s4] 123)).cell? ⟨w.heap.size + 1, 0, none⟩ = _ := P4.G.cell 0
            have c41 : ((w4.alloc (.cells #[.string q.nm, .int .i64 q.tb, .slice q.A q.n q.c, .int .u32 q.root, .int .i64 q.lv, .int .i64 q.hi, .slice q.B q.m q.e] 67)).alloc (.cells #[.string (str r4), .bool s4] 123)).cell? ⟨w.heap.size + 1, 1, none⟩ = _ := P4.G.cell 1
            have f40 := P4.G.frozen 0
            have f41 := P4.G.frozen 1
            have PW := HQ.out.1.call hb4
            have z40 := PW.T.lt
            have z41 := PW.sz
            have z42 := PW.lb
            have z43 := HQ.out.1.T.lt
            have z44 := hb4.size
            have P5 := P4.setG r4 s4
            have t5 : ((((w4.alloc (.cells #[.string q.nm, .int .i64 q.tb, .slice q.A q.n q.c, .int .u32 q.root, .int .i64 q.lv, .int .i64 q.hi, .slice q.B q.m q.e] 67)).alloc (.cells #[.string (str r4), .bool s4] 123)).setCell ⟨w.heap.size + 1, 0, none⟩ (.string (str r4))).setCell ⟨w.heap.size + 1, 1, none⟩ (.bool s4)).cell? ⟨w.heap.size + 1 + 1, 1, none⟩ = some u := P5.T.cell 1
            have B4 := ((((Blk.new w4 67 #[.string q.nm, .int .i64 q.tb, .slice q.A q.n q.c, .int .u32 q.root, .int .i64 q.lv, .int .i64 q.hi, .slice q.B q.m q.e]).alloc (.cells #[.string (str r4), .bool s4] 123)).far (p := ⟨w.heap.size + 1, 0, none⟩) (by simp; omega) (.string (str r4))).far (p := ⟨w.heap.size + 1, 1, none⟩) (by simp; omega) (.bool s4))
            have m0 : ((((w4.alloc (.cells #[.string q.nm, .int .i64 q.tb, .slice q.A q.n q.c, .int .u32 q.root, .int .i64 q.lv, .int .i64 q.hi, .slice q.B q.m q.e] 67)).alloc (.cells #[.string (str r4), .bool s4] 123)).setCell ⟨w.heap.size + 1, 0, none⟩ (.string (str r4))).setCell ⟨w.heap.size + 1, 1, none⟩ (.bool s4)).cell? ⟨w4.heap.size, 0, none⟩ = some (.string q.nm) := B4.cell 0
            have m1 : ((((w4.alloc (.cells #[.string q.nm, .int .i64 q.tb, .slice q.A q.n q.c, .int .u32 q.root, .int .i64 q.lv, .int .i64 q.hi, .slice q.B q.m q.e] 67)).alloc (.cells #[.string (str r4), .bool s4] 123)).setCell ⟨w.heap.size + 1, 0, none⟩ (.string (str r4))).setCell ⟨w.heap.size + 1, 1, none⟩ (.bool s4)).cell? ⟨w4.heap.size, 1, none⟩ = some (.int .i64 q.tb) := B4.cell 1
            have m2 : ((((w4.alloc (.cells #[.string q.nm, .int .i64 q.tb, .slice q.A q.n q.c, .int .u32 q.root, .int .i64 q.lv, .int .i64 q.hi, .slice q.B q.m q.e] 67)).alloc (.cells #[.string (str r4), .bool s4] 123)).setCell ⟨w.heap.size + 1, 0, none⟩ (.string (str r4))).setCell ⟨w.heap.size + 1, 1, none⟩ (.bool s4)).cell? ⟨w4.heap.size, 2, none⟩ = some (.slice q.A q.n q.c) := B4.cell 2
            have m3 : ((((w4.alloc (.cells #[.string q.nm, .int .i64 q.tb, .slice q.A q.n q.c, .int .u32 q.root, .int .i64 q.lv, .int .i64 q.hi, .slice q.B q.m q.e] 67)).alloc (.cells #[.string (str r4), .bool s4] 123)).setCell ⟨w.heap.size + 1, 0, none⟩ (.string (str r4))).setCell ⟨w.heap.size + 1, 1, none⟩ (.bool s4)).cell? ⟨w4.heap.size, 3, none⟩ = some (.int .u32 q.root) := B4.cell 3
            have m4 : ((((w4.alloc (.cells #[.string q.nm, .int .i64 q.tb, .slice q.A q.n q.c, .int .u32 q.root, .int .i64 q.lv, .int .i64 q.hi, .slice q.B q.m q.e] 67)).alloc (.cells #[.string (str r4), .bool s4] 123)).setCell ⟨w.heap.size + 1, 0, none⟩ (.string (str r4))).setCell ⟨w.heap.size + 1, 1, none⟩ (.bool s4)).cell? ⟨w4.heap.size, 4, none⟩ = some (.int .i64 q.lv) := B4.cell 4
            have m5 : ((((w4.alloc (.cells #[.string q.nm, .int .i64 q.tb, .slice q.A q.n q.c, .int .u32 q.root, .int .i64 q.lv, .int .i64 q.hi, .slice q.B q.m q.e] 67)).alloc (.cells #[.string (str r4), .bool s4] 123)).setCell ⟨w.heap.size + 1, 0, none⟩ (.string (str r4))).setCell ⟨w.heap.size + 1, 1, none⟩ (.bool s4)).cell? ⟨w4.heap.size, 5, none⟩ = some (.int .i64 q.hi) := B4.cell 5
            have m6 : ((((w4.alloc (.cells #[.string q.nm, .int .i64 q.tb, .slice q.A q.n q.c, .int .u32 q.root, .int .i64 q.lv, .int .i64 q.hi, .slice q.B q.m q.e] 67)).alloc (.cells #[.string (str r4), .bool s4] 123)).setCell ⟨w.heap.size + 1, 0, none⟩ (.string (str r4))).setCell ⟨w.heap.size + 1, 1, none⟩ (.bool s4)).cell? ⟨w4.heap.size, 6, none⟩ = some (.slice q.B q.m q.e) := B4.cell 6
            have hs5 : ((((w4.alloc (.cells #[.string q.nm, .int .i64 q.tb, .slice q.A q.n q.c, .int .u32 q.root, .int .i64 q.lv, .int .i64 q.hi, .slice q.B q.m q.e] 67)).alloc (.cells #[.string (str r4), .bool s4] 123)).setCell ⟨w.heap.size + 1, 0, none⟩ (.string (str r4))).setCell ⟨w.heap.size + 1, 1, none⟩ (.bool s4)).heap.size = w4.heap.size + 1 + 1 := by simp [World.setCell]
            have hq5 : IxIn ((((w4.alloc (.cells #[.string q.nm, .int .i64 q.tb, .slice q.A q.n q.c, .int .u32 q.root, .int .i64 q.lv, .int .i64 q.hi, .slice q.B q.m q.e] 67)).alloc (.cells #[.string (str r4), .bool s4] 123)).setCell ⟨w.heap.size + 1, 0, none⟩ (.string (str r4))).setCell ⟨w.heap.size + 1, 1, none⟩ (.bool s4)) ((((w4.alloc (.cells #[.string q.nm, .int .i64 q.tb, .slice q.A q.n q.c, .int .u32 q.root, .int .i64 q.lv, .int .i64 q.hi, .slice q.B q.m q.e] 67)).alloc (.cells #[.string (str r4), .bool s4] 123)).setCell ⟨w.heap.size + 1, 0, none⟩ (.string (str r4))).setCell ⟨w.heap.size + 1, 1, none⟩ (.bool s4)).heap.size q := hq4.stay (by rw [hs5]; omega) (fun hn ad ha => by
              have h1 := reads_lt hq4.2.1 hn ad ha
              have h2 := hqA ad ha
              exact (Below.heap_setCell _ _ _ _ (by simp; omega)).trans ((Below.heap_setCell _ _ _ _ (by simp; omega)).trans ((Below.heap_alloc _ _ _ (by simp; omega)).trans (Below.heap_alloc _ _ _ h1)))) (fun hn ad ha => by
              have h1 := reads_lt hq4.2.2.1 hn ad ha
              have h2 := hqB ad ha
              exact (Below.heap_setCell _ _ _ _ (by simp; omega)).trans ((Below.heap_setCell _ _ _ _ (by simp; omega)).trans ((Below.heap_alloc _ _ _ (by simp; omega)).trans (Below.heap_alloc _ _ _ h1))))
            have hu1 := fun b e => (World.ownsRow.lt HQ.out.1.own1 b e).2
            have hu2 := fun b e => (World.ownsRow.lt HQ.out.1.own2 b e).2
            have hqF : (0 < q.n → ∀ ad, q.A = some ad → w.heap.size + 1 + 1 < ad.block ∧ (Value.slice A1 n1 c1).ownBlock ≠ some ad.block ∧ u.ownBlock ≠ some ad.block) ∧ (0 < q.m → ∀ ad, q.B = some ad → w.heap.size + 1 + 1 < ad.block ∧ (Value.slice A1 n1 c1).ownBlock ≠ some ad.block ∧ u.ownBlock ≠ some ad.block) :=
              ⟨fun hn ad ha => ⟨by have := hqA ad ha; omega, fun e => by have := hu1 _ e; have := hqA ad ha; omega, fun e => by have := hu2 _ e; have := hqA ad ha; omega⟩, fun hn ad ha => ⟨by have := hqB ad ha; omega, fun e => by have := hu1 _ e; have := hqB ad ha; omega, fun e => by have := hu2 _ e; have := hqB ad ha; omega⟩⟩
            have H5 := Lib.hid (And.intro hl4 (And.intro P5 (And.intro st4 (And.intro hq5 hqF))))
            clear P4 P5 PW B4 hb4 st4 hl4 hq5 hqF hq4 hqA hqB hu1 hu2 CK g0 g1
            go_wp2_with (at_builtin; refine wpList_pushR12 (news := [.string q.nm, .int .i64 q.tb, .slice q.A q.n q.c, .int .u32 q.root, .int .i64 q.lv, .int .i64 q.hi, .slice q.B q.m q.e]) rfl (.tmp 66) (.tmp 68) 23 rfl WB 67 i1 _ 7 96 Try.underlying23 hi1 hz1 hs1 hy1 rfl (by decide) u k _ (by first | rfl | (simp [Act.eval, Act.put]; done)) H5.out.2.1.own2 rfl _ (by first | rfl | (simp [Act.eval, Act.put]; done)) (by simp [World.setCell]) rfl (by intro u hu; simp only [List.mem_cons, List.not_mem_nil, or_false] at hu; rcases hu with rfl | rfl | rfl | rfl | rfl | rfl | rfl <;> rfl) (by omega) (by omega) (by simp [World.setCell]; omega) ?_; intro v8 w8 own8 kp8 ob8; obtain ⟨A9, cc9, rfl, hcc9⟩ := own_form own8; have T9 := blk_far_own (World.ownsRow.alloc H5.out.2.1.own2 _) (H5.out.2.1.T.alloc _) kp8 (by omega); have c9 : w8.cell? ⟨w.heap.size + 1 + 1, 1, none⟩ = some u := T9.cell 1; have f9 : w8.frozen? ⟨w.heap.size + 1 + 1, 1, none⟩ = false := T9.frozen 1; have z9 := T9.lt; have H8 := Lib.hid (And.intro own8 (And.intro kp8 ob8)); clear own8 kp8 ob8 T9)
            exact ⟨⟨k + 1, xs ++ [q], .slice A9 (k + 1) cc9, r4, s4, by omega, by go_num, H5.out.2.1.pushX H5.out.2.2.2.1 H5.out.2.2.2.2.1 H5.out.2.2.2.2.2 H8.out.1 H8.out.2.1 H8.out.2.2, by simp [HQ.out.2.1], H5.out.2.2.1, by rw [List.map_append]; exact HQ.out.2.2.2.snoc H5.out.1⟩, by simp [intOf]; omega⟩
          · have HY : Rel (gMany gIdx b4.toNat) r4 s4 (xs.map Ix.px) rk true := rel_short HK.out.2.2.2 hk
            obtain ⟨A2, c2, rfl, hc2⟩ := own_form HK.out.1.own2
            have PK := HK.out.1
            have BK : BkIn wo A1 n1 c1 l A2 k c2 xs := ⟨Reads.of_own PK.own1, fun t ht => (PK.hl t ht).1, Reads.of_own PK.own2, fun x hx => (PK.hx x hx).1, ⟨HC.out.1, own_cap12 PK.own1⟩, ⟨hc2, own_cap12 PK.own2⟩⟩
            have HF : Hid ((∀ ad, A1 = some ad → w.heap.size < ad.block) ∧ (∀ t ∈ l, 0 < t.n → ∀ ad, t.A = some ad → w.heap.size < ad.block) ∧ (∀ ad, A2 = some ad → w.heap.size < ad.block) ∧ ∀ x ∈ xs, (0 < x.n → ∀ ad, x.A = some ad → w.heap.size < ad.block) ∧ (0 < x.m → ∀ ad, x.B = some ad → w.heap.size < ad.block)) := Lib.hid ⟨fun ad ha => by have := own_addr PK.own1 ad ha; omega, fun t ht hn ad ha => by have := ((PK.hl t ht).2 hn ad ha).1; omega, fun ad ha => by have := own_addr PK.own2 ad ha; have := PK.lb; omega, fun x hx => ⟨fun hn ad ha => by have := ((PK.hx x hx).2.1 hn ad ha).1; omega, fun hn ad ha => by have := ((PK.hx x hx).2.2 hn ad ha).1; omega⟩⟩
            have hBook := rel_book H3.out.1 HC.out.2 H4.out.1 HY
            have hB := fun hs => hBook.2 hs
            have t0 : wo.cell? ⟨w.heap.size + 1 + 1, 0, none⟩ = some (.slice A1 n1 c1) := PK.T.cell 0
            have t1 : wo.cell? ⟨w.heap.size + 1 + 1, 1, none⟩ = some (.slice A2 k c2) := PK.T.cell 1
            have y0 : wo.cell? ⟨w.heap.size, 0, none⟩ = some (.slice none 0 0) := PK.Z.cell 0
            have y1 : wo.cell? ⟨w.heap.size, 1, none⟩ = some (.slice none 0 0) := PK.Z.cell 1
            have v0 := PK.Z.frozen 0
            have v1 := PK.Z.frozen 1
            have zR := PK.Z.lt
            have hrz : ((str rk).size : Int) = (rk.length : Int) := by rw [str_size]
            have HZ := Lib.hid (And.intro PK.b (And.intro PK.Z (And.intro PK.T BK)))
            have NO : (true = true ∨ 0 < rk.length) → ¬ ∃ b, gBook bs = some (b, []) ∧ MayB b := fun h => by
              rintro ⟨b, e1, _⟩
              rcases hB rfl with ⟨e2, e3⟩ | ⟨e2, e3⟩
              · rw [e3] at e1; cases e1
              · rw [e3] at e1
                injection e1 with e1
                injection e1 with _ e4
                rcases h with h | h
                · rw [h] at e2; cases e2
                · rw [e4] at h; simp at h
            have HNO := Lib.hid NO
            have HBO := Lib.hid (hB rfl)
            clear NO hB hBook PK BK HY
            clear HBO hrz
            go_wp2
            exact rget_end ((HZ.out.2.1.set_ 0 (.slice none 0 0)).set_ 1 (.slice none 0 0)) (by simp) (by simp) (RetRG.no ((HZ.out.1.setCell (Nat.le_refl _) _).setCell (Nat.le_refl _) _) (HNO.out (.inl (by first | rfl | trivial))))
        · have hkb : k = b4.toNat := by omega
          have e9 : decide ((k : Int) < (b4.toNat : Int)) = false := by simp; omega
          have HY : Rel (gMany gIdx b4.toNat) r4 s4 (xs.map Ix.px) rk sk := hkb ▸ HK.out.2.2.2
          clear hkb
          obtain ⟨A2, c2, rfl, hc2⟩ := own_form HK.out.1.own2
          have PK := HK.out.1
          have BK : BkIn wo A1 n1 c1 l A2 k c2 xs := ⟨Reads.of_own PK.own1, fun t ht => (PK.hl t ht).1, Reads.of_own PK.own2, fun x hx => (PK.hx x hx).1, ⟨HC.out.1, own_cap12 PK.own1⟩, ⟨hc2, own_cap12 PK.own2⟩⟩
          have HF : Hid ((∀ ad, A1 = some ad → w.heap.size < ad.block) ∧ (∀ t ∈ l, 0 < t.n → ∀ ad, t.A = some ad → w.heap.size < ad.block) ∧ (∀ ad, A2 = some ad → w.heap.size < ad.block) ∧ ∀ x ∈ xs, (0 < x.n → ∀ ad, x.A = some ad → w.heap.size < ad.block) ∧ (0 < x.m → ∀ ad, x.B = some ad → w.heap.size < ad.block)) := Lib.hid ⟨fun ad ha => by have := own_addr PK.own1 ad ha; omega, fun t ht hn ad ha => by have := ((PK.hl t ht).2 hn ad ha).1; omega, fun ad ha => by have := own_addr PK.own2 ad ha; have := PK.lb; omega, fun x hx => ⟨fun hn ad ha => by have := ((PK.hx x hx).2.1 hn ad ha).1; omega, fun hn ad ha => by have := ((PK.hx x hx).2.2 hn ad ha).1; omega⟩⟩
          have hBook := rel_book H3.out.1 HC.out.2 H4.out.1 HY
          have hB := fun hs => hBook.2 hs
          have t0 : wo.cell? ⟨w.heap.size + 1 + 1, 0, none⟩ = some (.slice A1 n1 c1) := PK.T.cell 0
          have t1 : wo.cell? ⟨w.heap.size + 1 + 1, 1, none⟩ = some (.slice A2 k c2) := PK.T.cell 1
          have y0 : wo.cell? ⟨w.heap.size, 0, none⟩ = some (.slice none 0 0) := PK.Z.cell 0
          have y1 : wo.cell? ⟨w.heap.size, 1, none⟩ = some (.slice none 0 0) := PK.Z.cell 1
          have v0 := PK.Z.frozen 0
          have v1 := PK.Z.frozen 1
          have zR := PK.Z.lt
          have hrz : ((str rk).size : Int) = (rk.length : Int) := by rw [str_size]
          have HZ := Lib.hid (And.intro PK.b (And.intro PK.Z (And.intro PK.T BK)))
          have NO : (sk = true ∨ 0 < rk.length) → ¬ ∃ b, gBook bs = some (b, []) ∧ MayB b := fun h => by
            rintro ⟨b, e1, _⟩
            rcases hB rfl with ⟨e2, e3⟩ | ⟨e2, e3⟩
            · rw [e3] at e1; cases e1
            · rw [e3] at e1
              injection e1 with e1
              injection e1 with _ e4
              rcases h with h | h
              · rw [h] at e2; cases e2
              · rw [e4] at h; simp at h
          have HNO := Lib.hid NO
          have HBO := Lib.hid (hB rfl)
          clear NO hB hBook PK BK HY
          cases sk with
          | true =>
            clear HBO hrz
            go_wp2
            exact rget_end ((HZ.out.2.1.set_ 0 (.slice none 0 0)).set_ 1 (.slice none 0 0)) (by simp) (by simp) (RetRG.no ((HZ.out.1.setCell (Nat.le_refl _) _).setCell (Nat.le_refl _) _) (HNO.out (.inl (by first | rfl | trivial))))
          | false =>
            by_cases hm : 0 < rk.length
            · have hmI : (0 : Int) < ((str rk).size : Int) := by omega
              have hmN : 0 < (str rk).size := by omega
              clear HBO hrz
              go_wp2
              exact rget_end ((HZ.out.2.1.set_ 0 (.slice none 0 0)).set_ 1 (.slice none 0 0)) (by simp) (by simp) (RetRG.no ((HZ.out.1.setCell (Nat.le_refl _) _).setCell (Nat.le_refl _) _) (HNO.out (.inr hm)))
            · have hrk : rk = [] := List.eq_nil_of_length_eq_zero (by omega)
              have hgb : gBook bs = some (pbk l xs, []) := by
                rcases HBO.out with ⟨e2, e3⟩ | ⟨e2, e3⟩
                · cases e2
                · rw [e3, hrk]; rfl
              have hmI : ((str rk).size : Int) = 0 := by omega
              have hmN : (str rk).size = 0 := by omega
              have HGB := Lib.hid hgb
              have MY := Lib.hid (rmay_any A1 n1 c1 l A2 k c2 xs wo HZ.out.2.2.2)
              clear hrk hgb HBO HNO hm
              go_wp2_with fail
              refine MY.out.mono ?_
              rintro e w7 ⟨b, rfl, hbm, hb7⟩
              have R7 := HZ.out.2.1.below hb7 zR
              have T7 := HZ.out.2.2.1.below hb7 HZ.out.2.2.1.lt
              have p0 : w7.cell? ⟨w.heap.size, 0, none⟩ = some (.slice none 0 0) := R7.cell 0
              have p1 : w7.cell? ⟨w.heap.size, 1, none⟩ = some (.slice none 0 0) := R7.cell 1
              have h0 := R7.frozen 0
              have h1 := R7.frozen 1
              have o0 : w7.cell? ⟨w.heap.size + 1 + 1, 0, none⟩ = some (.slice A1 n1 c1) := T7.cell 0
              have o1 : w7.cell? ⟨w.heap.size + 1 + 1, 1, none⟩ = some (.slice A2 k c2) := T7.cell 1
              have z7 := R7.lt
              have H7 := Lib.hid (And.intro hbm (And.intro (HZ.out.1.trans (hb7.mono (by omega))) (And.intro R7 (HZ.out.2.2.2.below hb7))))
              clear hbm hb7 R7 T7 y0 y1 g0 g1 v0 v1 t0 t1
              cases b with
              | false =>
                go_wp2
                refine rget_end ((H7.out.2.2.1.set_ 0 (.slice none 0 0)).set_ 1 (.slice none 0 0)) (by simp) (by simp) (RetRG.no ((H7.out.2.1.setCell (Nat.le_refl _) _).setCell (Nat.le_refl _) _) ?_)
                rintro ⟨b, e1, e2⟩
                rw [HGB.out] at e1
                injection e1 with e1
                injection e1 with e1 _
                subst e1
                exact absurd (H7.out.1.2 e2) (by decide)
              | true =>
                go_wp2
                refine rget_end ((H7.out.2.2.1.set_ 0 (.slice A1 n1 c1)).set_ 1 (.slice A2 k c2)) (by simp) (by simp) ⟨A1, n1, c1, l, A2, k, c2, xs, true, rfl, ?_, (H7.out.2.1.setCell (Nat.le_refl _) _).setCell (Nat.le_refl _) _, .inl ⟨rfl, HGB.out, H7.out.1.1 (by first | rfl | trivial)⟩⟩
                exact (H7.out.2.2.2.far HF.out.1 HF.out.2.1 HF.out.2.2.1 HF.out.2.2.2 0 _).far HF.out.1 HF.out.2.1 HF.out.2.2.1 HF.out.2.2.2 1 _
end
end Go.Proofs.Ytjlpfhioacphkaa
