/-
  Several texts in one: Hw.
-/
import Derived.Test.YtdimkeoncgjegaaMfav
import Derived.Test.YtdimkeoncgjegaaMfbb
import Derived.BigQuiet
/-
  Heap: the law HeapBack.
-/
namespace Go.Proofs.Ytdimkeoncgjegaa
section
set_option linter.unusedSimpArgs false
set_option linter.unusedVariables false
open Go.RowKit Go.Maps

theorem fillL_T : ∀ (l ps : List (List UInt8)) (T : List Bool) (p : Nat) (rs : List (List UInt8)) (rids : List (Nat × Nat)) (q : Nat), T[q]? = some true → (fillL l ps T p rs rids).2.1[q]? = some true := by
  intro l
  have hs : ∀ (T : List Bool) (i q : Nat), T[q]? = some true → (T.set i true)[q]? = some true := fun T i q h => by
    by_cases e : i = q
    · subst e; rw [List.getElem?_set_self (lt_of_at h)]
    · rw [List.getElem?_set_ne e]; exact h
  induction l with
  | nil => intro ps T p rs rids q h; exact hs _ _ _ h
  | cons r t ih =>
    intro ps T p rs rids q h
    by_cases hf : r.length ≤ roomL rs
    · rw [fillL_fit hf]; exact ih _ _ _ _ _ _ h
    · rcases hi : freeI T with _ | i
      · rw [fillL_none hf hi]; exact hs _ _ _ h
      · rw [fillL_some hf hi]; exact ih _ _ _ _ _ _ (hs _ _ _ (hs _ _ _ h))
theorem fillP_T (l ps : List (List UInt8)) (T : List Bool) (q : Nat) (h : T[q]? = some true) : (fillP l ps T).T[q]? = some true := by
  unfold fillP
  split
  · rcases hi : freeI T with _ | i
    · exact h
    · have h1 : (T.set i true)[q]? = some true := by
        by_cases e : i = q
        · subst e; rw [List.getElem?_set_self (lt_of_at h)]
        · rw [List.getElem?_set_ne e]; exact h
      have h2 := fillL_T l ps (T.set i true) i [] [] q h1
      simp only
      rcases hR : fillL l ps (T.set i true) i [] [] with ⟨a, b, o⟩
      rw [hR] at h2
      cases o <;> exact h2
  · exact h
/-- A fill that was right. -/
theorem fillP_ok {l ps : List (List UInt8)} {T : List Bool} (h : (fillP l ps T).err = 0) : ∃ i ps' T' rids, okR l = true ∧ freeI T = some i ∧ fillL l ps (T.set i true) i [] [] = (ps', T', some rids) ∧ fillP l ps T = ⟨ps', T', i, rids, 0⟩ := by
  unfold fillP at h ⊢
  split at h
  · rename_i hok
    rw [if_pos hok]
    rcases hi : freeI T with _ | i
    · rw [hi] at h
      exact absurd h (show (7 : Int) ≠ 0 by decide)
    · rw [hi] at h
      simp only at h ⊢
      rcases hR : fillL l ps (T.set i true) i [] [] with ⟨a, b, o⟩
      rw [hR] at h
      cases o with
      | none => exact absurd h (by show (7 : Int) ≠ 0; decide)
      | some rids => exact ⟨i, a, b, rids, hok, rfl, hR, rfl⟩
  · exact absurd h (show (1 : Int) ≠ 0 by decide)
/-- What was filled is there. -/
theorem fill_back {l ps : List (List UInt8)} {T : List Bool} {i : Nat} {ps' : List (List UInt8)} {T' : List Bool} {rids : List (Nat × Nat)} (hok : okR l = true) (hi : freeI T = some i) (hR : fillL l ps (T.set i true) i [] [] = (ps', T', some rids)) (hT : T.length = ps.length) (hn : ps.length ≤ 10000) (hT0 : T[0]? = some true) :
    rids.length = l.length ∧ outH ps' ps.length i [] 0 = (itZ rids l, pagesP (l.map List.length) 1 500, 0) ∧
      (∀ (j : Nat) (x : Nat × Nat) (r : List UInt8), rids[j]? = some x → l[j]? = some r → fetchH ps' x.1 x.2 = (r, 0)) ∧ (∀ (j : Nat) (x : Nat × Nat), rids[j]? = some x → x.1 < ps.length ∧ x.2 < 126) ∧ i < ps.length := by
  obtain ⟨i', g1, g2, g3⟩ | ⟨g1, _⟩ := freeI_cases T
  rotate_left
  · rw [g1] at hi; cases hi
  rw [hi] at g1
  obtain rfl := Option.some.inj g1
  have hin : i < ps.length := by rw [← hT]; exact lt_of_at g2
  have hi0 : i ≠ 0 := fun e => by subst e; rw [g2] at hT0; cases hT0
  have hlr : ∀ r ∈ l, 1 ≤ r.length ∧ r.length ≤ 500 := fun r hr => by simpa using List.all_eq_true.1 hok r hr
  obtain ⟨pgs, rest, e1, e2, e3, e4, e5, hA, hB, hC1, hC2, hR2, hD⟩ := fill_main l ps (T.set i true) i [] [] ps' T' rids hR hlr Fits.nil hin (by simpa using hT) hn (by rw [List.getElem?_set_self (by rw [hT]; exact hin)]) (by rw [List.getElem?_set_ne hi0]; exact hT0)
  have hrr : rids = rest := by simpa using e1
  subst hrr
  have hfn := freeN_set T i g2
  have hfl := freeN_le T
  have hD1 := hD 1
  have e6 : (500 : Int) - (4 * (([] : List (List UInt8)).length : Int) + (tot [] : Int)) = 500 := by simp [tot, bk]
  rw [e6] at hD1
  obtain ⟨f, hf⟩ : ∃ f, ps.length = pgs + f := ⟨ps.length - pgs, by omega⟩
  refine ⟨e2, ?_, hC2, hR2, hin⟩
  rw [hf, hB f [] 0]
  have h7 : itK i [] ([] : List (List UInt8)).length = [] := rfl
  rw [h7]
  simp
  omega
theorem Try.infoI64 : (Try.prog.info? 3).map (fun i => (i.zero, i.size, i.bytes)) = some (some (.int .i64 0), 1, 8) := by kernel_rfl
theorem Reads.rid {w : World} {B : Nat} {A : Option Addr} {n k : Nat} {l : List (Nat × Nat)} (hr : Reads w B 2 A n (ridV l)) (hk : k < n) :
    ∃ ad v, A = some ad ∧ ad.block < B ∧ l[k]? = some v ∧ w.cell? (ad.add (k * 2)) = some (.int .u32 v.1) ∧ w.cell? ⟨(ad.add (k * 2)).block, (ad.add (k * 2)).off + 1, none⟩ = some (.int .u16 v.2) := by
  have hl : l.length = n := by have := hr.1; rw [ridV_len] at this; omega
  obtain ⟨ad, hA, hb, hc⟩ := hr.2 (by omega)
  have hv : l[k]? = some (l[k]'(by omega)) := List.getElem?_eq_getElem (by omega)
  have at_ : ∀ j, j < 2 → (ridV l)[k * 2 + j]? = ([Value.int .u32 (l[k]'(by omega)).1, .int .u16 (l[k]'(by omega)).2] : List Value)[j]? := fun j hj => flat_at _ 2 l k _ j (by simp) hv hj
  refine ⟨ad, l[k]'(by omega), hA, hb, hv, ?_, ?_⟩
  · have := hc (k * 2 + 0) _ (by rw [at_ 0 (by omega)]; rfl)
    simpa using this
  · rw [field_add _ _ _ (by omega)]
    exact hc (k * 2 + 1) _ (by rw [at_ 1 (by omega)]; rfl)
theorem PS.turn_ownR {w w' : World} {lo gp gd gb gt n : Nat} {ps : List (List UInt8)} {T : List Bool} {gm size : Nat} {K : List Fr} {D : DataW Unit} {rd ht : Nat} (h : PS w lo gp gd gb gt n ps T gm size K D rd ht) (t : Turn w w' lo gp gm K) {base : Nat} {e : TypeId} {sz k : Nat} {v : Value} {xs : List Value} (ho : w.ownsRow base e sz v k xs) (h1 : e ≠ 104) (h2 : e ≠ 96) : w'.ownsRow base e sz v k xs :=
  ownR_stays ho fun g cs _ hb => t.heap g hb.lt (hb.ne_ h.rg.pool h1) (h.mp.ne_ hb) (fun j f hj => hb.ne_ (h.rg.fr j f hj).1 h2)
set_option maxRecDepth 100000 in
set_option maxHeartbeats 16000000 in
theorem lawBack_any {w : World} {A0 A1 : Option Addr} {m0 c0 m1 c1 : Nat} {rows0 rows1 : List Rw} (hr0 : RRs w w.heap.size A0 m0 rows0) (hr1 : RRs w w.heap.size A1 m1 rows1) (hm0 : m0 ≤ 8796093022208) (hm1 : m1 ≤ 8796093022208) (sz : Int) (hsz : 0 ≤ sz ∧ sz ≤ 255) :
    Calls Try.prog 4 #[.slice A0 m0 c0, .slice A1 m1 c1, .int .u8 sz] w (RetB w (.bool true)) := by
  have F := Lib.hid hfixed_any
  have S0 := Lib.hid (small_any (c := c0) hr0 hm0)
  have S1 := Lib.hid (small_any (c := c1) hr1 hm1)
  have HR := Lib.hid (And.intro hr0 hr1)
  have hsz0 := hsz.1
  have hsz1 := hsz.2
  clear hr0 hr1 hm0 hm1 hsz
  go_enter Try.func4, Try.ntmps4
  go_wp2_with fail
  refine S0.out.mono ?_
  rintro e w1 ⟨b0, rfl, hb0, rfl⟩
  cases b0
  · go_wp2_with fail
    refine (F.out _).mono ?_
    rintro e w1 ⟨rfl, hb1⟩
    go_wp2
    go_ret
    exact ⟨rfl, hb1⟩
  have m0s := hb0 rfl
  go_wp2_with fail
  refine S1.out.mono ?_
  rintro e w1 ⟨b1, rfl, hb1, rfl⟩
  cases b1
  · go_wp2_with fail
    refine (F.out _).mono ?_
    rintro e w1 ⟨rfl, hb1⟩
    go_wp2
    go_ret
    exact ⟨rfl, hb1⟩
  have m1s := hb1 rfl
  clear hb0 hb1 S0 S1
  have ND := Lib.hid (newDP 60 (by omega) (by omega) w)
  rw [show ((60 : Nat) : Int) = 60 from rfl] at ND
  go_wp2_with fail
  refine ND.out.mono ?_
  rintro e w1 ⟨gd, gb, gt, rfl, dp1, hg1, hg2, hg3, hb1⟩
  have hT0 : (marksOf (zb 60) 60)[0]? = some true := by rw [zb_marks 60 (by omega)]; rfl
  obtain ⟨ps0, hps0⟩ : ∃ ps0, pagesOf (zb 60) 60 = ps0 := ⟨_, rfl⟩
  obtain ⟨T0, hTT0⟩ : ∃ T0, marksOf (zb 60) 60 = T0 := ⟨_, rfl⟩
  rw [hps0, hTT0] at dp1
  rw [hTT0] at hT0
  have FA := Lib.hid (fill_any (B := w.heap.size) (c := c1) dp1 (by omega) (by omega) (HR.out.2.below hb1) hg2 hg3 hb1.size (by omega))
  have H1 := Lib.hid hb1
  have HT0 := Lib.hid hT0
  clear dp1 hb1 hps0 hTT0 hT0 ND
  go_wp2_with fail
  refine FA.out.mono ?_
  rintro e w2 ⟨Ax, cx, rfl, _, dp2, lf2⟩
  have hT2 := fillP_T (rows1.map Rw.l) ps0 T0 0 HT0.out
  obtain ⟨R1, hR1⟩ : ∃ R1, fillP (rows1.map Rw.l) ps0 T0 = R1 := ⟨_, rfl⟩
  rw [hR1] at dp2 hT2 ⊢
  have hw2 : Below w.heap.size w w2 := H1.out.trans (lf2.below w.heap.size hg2 hg3 H1.out.size)
  have FB := Lib.hid (fill_any (B := w.heap.size) (c := c0) dp2 (by omega) (by omega) (HR.out.1.below hw2) hg2 hg3 hw2.size (by omega))
  have H2 := Lib.hid (And.intro hw2 (And.intro hT2 (And.intro dp2.hp dp2.hT)))
  clear dp2 lf2 hw2 hT2 hR1 FA
  go_wp2_with fail
  refine FB.out.mono ?_
  rintro e w3 ⟨Ar, cr, rfl, rrow, dp3, lf3⟩
  have hw3 : Below w.heap.size w w3 := H2.out.1.trans (lf3.below w.heap.size hg2 hg3 H2.out.1.size)
  by_cases hE : (fillP (rows0.map Rw.l) R1.ps R1.T).err = 0
  rotate_left
  · obtain ⟨R2, hR2⟩ : ∃ R2, fillP (rows0.map Rw.l) R1.ps R1.T = R2 := ⟨_, rfl⟩
    rw [hR2] at hE ⊢
    have eE : (R2.err != 0) = true := by simpa using hE
    have H3 := Lib.hid hw3
    clear hE hw3 dp3 lf3 rrow hR2
    go_wp2_with fail
    refine (F.out _).mono ?_
    rintro e w4 ⟨rfl, hb4⟩
    have HE := Lib.hid (H3.out.trans (hb4.mono H3.out.size))
    clear hb4
    go_wp2
    go_ret
    exact ⟨rfl, HE.out⟩
  obtain ⟨i, ps, T, rids, hok, hfi, hfl, hR2⟩ := fillP_ok hE
  rw [hR2] at dp3 rrow ⊢
  obtain ⟨k1, k2, k3, k4, k5⟩ := fill_back hok hfi hfl (by rw [H2.out.2.2.2, H2.out.2.2.1]) (by rw [H2.out.2.2.1]; omega) H2.out.2.1
  rw [H2.out.2.2.1] at k2 k4 k5
  have hrl : (rows0.map Rw.l).length = m0 := by rw [List.length_map]; exact HR.out.1.len
  rw [hrl] at k1
  have hlr : ∀ x ∈ (rows0.map Rw.l).map List.length, 1 ≤ x ∧ x ≤ 500 := fun x hx => by
    obtain ⟨r, hr, rfl⟩ := List.mem_map.1 hx
    simpa using List.all_eq_true.1 hok r hr
  obtain ⟨P, hP⟩ : ∃ P, pagesP ((rows0.map Rw.l).map List.length) 1 500 = P := ⟨_, rfl⟩
  rw [hP] at k2
  obtain ⟨S, hS⟩ : ∃ S : Nat, 1 + sz = (S : Int) := ⟨(1 + sz).toNat, by omega⟩
  have hS1 : 1 ≤ S := by omega
  have PN := Lib.hid (pnew_any (size := S) dp3 hS1 (by omega))
  have iI : (i : Int) ≤ 4294967295 := by omega
  change w3.ownsRow w2.heap.size 50 2 (.slice Ar rids.length cr) rids.length (ridV rids) at rrow
  rw [k1] at rrow
  have H3 := Lib.hid (And.intro hw3 (And.intro rrow (And.intro k2 (And.intro k3 (And.intro k4 (And.intro hrl (And.intro hlr (And.intro hP k1))))))))
  have hrids : rids.length = m0 := k1
  clear hE hw3 dp3 lf3 rrow k2 k3 k4 hR2 hok hfi hfl hrl hlr hP k1 FB
  dsimp only
  rw [hrids]
  clear hrids
  go_wp2_with fail
  refine PN.out.mono ?_
  rintro e w4 ⟨gp, gm, D, rfl, pa, hb4, _, _⟩
  have hlow3 := H3.out.1.size
  have SC := Lib.hid (scan2_any (m := 0) pa (Nat.le_refl _) (Nat.le_refl _) hb4.size (by omega) (by omega) i (by omega))
  rw [H3.out.2.2.1] at SC
  have H4 := Lib.hid hb4
  clear hb4 pa PN
  go_wp2_with fail
  refine SC.out.mono ?_
  rintro e w5 ⟨acc, Ai, ci, K5, D5, rd5, ht5, rfl, hacc, irow, lok5, pa5, hrd5, hht5, hk5, tn5⟩
  dsimp only at hacc irow ⊢
  have hzl : (itZ rids (rows0.map Rw.l)).length = m0 := by unfold itZ; rw [List.length_zipWith, H3.out.2.2.2.2.2.2.2.2, H3.out.2.2.2.2.2.1]; omega
  have hal : acc.length = m0 := by have := congrArg List.length hacc; rw [hzl, List.length_map] at this; omega
  have b5 : Below w3.heap.size w3 w5 := tn5.below _ _ (Nat.le_refl _) H4.out
  rw [hzl] at irow
  have H5 := Lib.hid (And.intro hacc (And.intro irow (And.intro lok5 (And.intro pa5 (And.intro b5 (And.intro hrd5 (And.intro hht5 hal)))))))
  have hlow5 := b5.size
  clear hacc irow lok5 pa5 hrd5 hht5 hk5 tn5 b5 SC hal
  rw [hzl]
  clear hzl
  obtain ⟨i0, hi0, hz0, hs0, hy0⟩ := int_info8 Try.infoI64
  have m0I : (m0 : Int) ≤ 9000 := by omega
  go_wp2
  go_loopw [17, 73] (fun u17 u73 wr => ∃ k : Nat, u73 = .int .i64 k ∧ k ≤ m0 ∧ wr.ownsRow w5.heap.size 3 1 u17 k (((rows0.map Rw.l).map List.length).take k |>.map fun (x : Nat) => Value.int .i64 (x : Int)) ∧ Below w5.heap.size w5 wr) (fun _ u73 _ => m0 - (intOf u73).toNat)
  case atStart => exact ⟨0, rfl, by omega, ⟨rfl, .inl ⟨rfl, rfl⟩⟩, Below.refl _ _⟩
  case round =>
    obtain ⟨wo, rfl⟩ : ∃ wo : World, wo = wr := ⟨_, rfl⟩
    obtain ⟨k, rfl, hk, hown, hb⟩ := hrel
    have k0 : (0 : Int) ≤ (k : Int) := by omega
    have hbsz := hb.size
    by_cases hlt : k < m0
    · have k1 : (k : Int) < (m0 : Int) := by omega
      have hargs : RRs wo w.heap.size A0 m0 rows0 := ((HR.out.1.below H3.out.1).below (H5.out.2.2.2.2.1.mono hlow3)).below (hb.mono (by omega))
      obtain ⟨ad, r, rfl, had, hrow, hcell, hrc, hrm, _⟩ := hargs.row hlt
      have hnx : ((rows0.map Rw.l).map List.length)[k]? = some r.l.length := by rw [List.getElem?_map, List.getElem?_map, hrow]; rfl
      have HL := Lib.hid (And.intro hown (And.intro hb hnx))
      clear hown hb hnx hargs hrow
      go_wp2_with (at_builtin; refine wpList_pushR (news := [.int .i64 (r.l.length : Int)]) rfl (.tmp 77) (.tmp 80) 58 rfl w5.heap.size 3 i0 _ 1 8 Try.underlying58 hi0 hz0 hs0 hy0 rfl (by decide) u17 k _ (by first | rfl | (simp [Act.eval, Act.put]; done)) HL.out.1 rfl _ (by first | rfl | (simp [Act.eval, Act.put]; done)) (by first | rfl | simp) rfl (by intro u hu; rw [List.mem_singleton] at hu; subst hu; rfl) (by omega) (by omega) (by omega) ?_; intro v8 w8 own8 kp8 ob8)
      have oa := World.ownsRow.alloc HL.out.1 (.cells #[.int .i64 (r.l.length : Int)] 3)
      refine ⟨⟨k + 1, rfl, by omega, ?_, bgrow (ball HL.out.2.1 _) kp8 oa (Nat.le_refl _) (by simp; omega)⟩, by simp [intOf]; omega⟩
      rw [List.take_add_one, HL.out.2.2, List.map_append]
      exact own8
    · obtain rfl : m0 = k := by omega
      have hll : ((rows0.map Rw.l).map List.length).length = m0 := by rw [List.length_map]; exact H3.out.2.2.2.2.2.1
      rw [List.take_of_length_le (by rw [hll]; exact Nat.le_refl _)] at hown
      obtain ⟨As, cs, rfl, hcs⟩ := own_form hown
      have PGS := Lib.hid (hpages_any (c := cs) (Reads.of_own hown) (by omega) H3.out.2.2.2.2.2.2.1)
      rw [H3.out.2.2.2.2.2.2.2.1] at PGS
      have H6 := Lib.hid hb
      clear hown hb hll hlt
      go_wp2_with fail
      refine PGS.out.mono ?_
      rintro e w6 ⟨rfl, rfl⟩
      clear PGS
      go_wp2
      go_loopw [107] (fun u107 wr => ∃ (k : Nat) (K : List Fr) (D : DataW Unit) (rd ht : Nat), u107 = .int .i64 k ∧ k ≤ m0 ∧ PS wr w3.heap.size gp gd gb gt 60 ps T gm S K D rd ht ∧ rd ≤ 60 + k ∧ ht ≤ 60 + k ∧ Below w3.heap.size w3 wr ∧ wr.ownsRow (w4.heap.size + 1) 62 3 (.slice Ai m0 ci) m0 (pV acc) ∧ LOk wr w4.heap.size acc) (fun u107 _ => m0 - (intOf u107).toNat)
      case atStart => exact ⟨0, _, _, _, _, rfl, by omega, H5.out.2.2.2.1.below H6.out, by have := H5.out.2.2.2.2.2.1; omega, by have := H5.out.2.2.2.2.2.2.1; omega, H5.out.2.2.2.2.1.trans (H6.out.mono hlow5), own_kept_below H5.out.2.1 H6.out, fun x hx => ⟨(H5.out.2.2.1 x hx).1.below H6.out, (H5.out.2.2.1 x hx).2⟩⟩
      case round =>
        obtain ⟨wq, rfl⟩ : ∃ wq : World, wq = wo := ⟨_, rfl⟩
        obtain ⟨wo, rfl⟩ : ∃ wo : World, wo = wr := ⟨_, rfl⟩
        obtain ⟨k, K, D, rd, ht, rfl, hk, hps, hrd, hht, hb, hrow, hlok⟩ := hrel
        have k0 : (0 : Int) ≤ (k : Int) := by omega
        have hbsz := hb.size
        by_cases hlt : k < m0
        · have k1 : (k : Int) < (m0 : Int) := by omega
          obtain ⟨ad0, r, rfl, had0, hrow0, hcell0, hrc, hrm, hrr⟩ := HR.out.1.row hlt
          obtain ⟨ad2, v, rfl, had2, hv, c20, c21⟩ := (Reads.of_own H3.out.2.1).rid hlt
          obtain ⟨ad, x, rfl, had, hx, p1, p2, p3⟩ := (Reads.of_own hrow).pit hlt
          have hrec : (rows0.map Rw.l)[k]? = some r.l := by rw [List.getElem?_map, hrow0]; rfl
          have hxe : x.it = ⟨v.1, v.2, r.l⟩ := by
            have h1 : (acc.map PIt.it)[k]? = some x.it := by rw [List.getElem?_map, hx]; rfl
            have h2 : (itZ rids (rows0.map Rw.l))[k]? = some ⟨v.1, v.2, r.l⟩ := by
              unfold itZ
              rw [List.getElem?_zipWith, hv, hrec]
            have h3 := H5.out.1
            rw [← h3, h2] at h1
            exact (Option.some.inj h1).symm
          obtain ⟨xi, xa, xc⟩ := x
          obtain rfl : xi = ⟨v.1, v.2, r.l⟩ := hxe
          dsimp only at p1 p2 p3
          have hvr := H3.out.2.2.2.2.1 k v hv
          have hfe := H3.out.2.2.2.1 k v r.l hv hrec
          have HA : Hid (∀ W, Below w.heap.size w W → W.cell? (ad0.add k) = some (.slice r.A r.l.length r.c) ∧ ∀ nq, (convert 59 9 (.slice r.A r.l.length r.c)).run Try.prog (W.drewN nq) = .ok (.string (str r.l)) (W.drewN nq)) := Lib.hid fun W hW => ⟨(hW.cell (by rw [block_of_add]; exact had0)).trans hcell0, fun nq => ((hrr.below hW).drewN nq).cnv⟩
          have HC2 : Hid (∀ W, Below w3.heap.size w3 W → W.cell? (ad2.add (k * 2)) = some (.int .u32 v.1) ∧ W.cell? ⟨(ad2.add (k * 2)).block, (ad2.add (k * 2)).off + 1, none⟩ = some (.int .u16 v.2)) := Lib.hid fun W hW => ⟨(hW.cell (by rw [block_of_add]; exact had2)).trans c20, (hW.cell (by show (ad2.add (k * 2)).block < _; rw [block_of_add]; exact had2)).trans c21⟩
          have hba := ball (Below.refl wo.heap.size wo) (.cells #[.int .u32 v.1, .int .u16 v.2, .slice (some ⟨xa, 0, none⟩) r.l.length xc] 62)
          have hb3a : Below w3.heap.size w3 (wo.alloc (.cells #[.int .u32 v.1, .int .u16 v.2, .slice (some ⟨xa, 0, none⟩) r.l.length xc] 62)) := hb.trans (hba.mono hbsz)
          obtain ⟨d0, d1⟩ := HC2.out _ hb3a
          have FT := Lib.hid (fetch_any (m := 60 + k) (hps.below hba) hrd hht (Nat.le_trans hbsz hba.size) (by omega) (by omega) v.1 (by omega) v.2 (by omega))
          rw [hfe] at FT
          have HX := Blk.new wo 62 #[.int .u32 v.1, .int .u16 v.2, .slice (some ⟨xa, 0, none⟩) r.l.length xc]
          have HQ := Lib.hid (And.intro (hps.below hba) (And.intro hb3a (And.intro (own_kept_below hrow hba) (And.intro (fun y hy => ⟨(hlok y hy).1.below hba, (hlok y hy).2⟩ : LOk _ w4.heap.size acc) (And.intro HX (List.mem_of_getElem? hx))))))
          clear hps hb hrow hlok hba hb3a HX hfe hv hx hrec hrow0 hcell0 hrr c20 c21
          go_wp2_with fail
          refine FT.out.mono ?_
          rintro e w7 ⟨A7, c7, K7, D7, rd7, ht7, rfl, hrd7, hc7, pa7, hr7, hh7, _, tn7⟩
          dsimp only at hrd7 ⊢
          have b7 : Below w3.heap.size w3 w7 := tn7.below _ _ (Nat.le_refl _) HQ.out.2.1
          have X7 := HQ.out.1.turn_blk tn7 HQ.out.2.2.2.2.1 (by decide) (by decide)
          have x0 : w7.cell? ⟨wo.heap.size, 0, none⟩ = some (.int .u32 v.1) := X7.cell 0
          have x1 : w7.cell? ⟨wo.heap.size, 1, none⟩ = some (.int .u16 v.2) := X7.cell 1
          have x2 : w7.cell? ⟨wo.heap.size, 2, none⟩ = some (.slice (some ⟨xa, 0, none⟩) r.l.length xc) := X7.cell 2
          have lok7 : LOk w7 w4.heap.size acc := fun y hy => ⟨HQ.out.1.turn_own tn7 (HQ.out.2.2.2.1 y hy).1, (HQ.out.2.2.2.1 y hy).2⟩
          have row7 := HQ.out.1.turn_ownR tn7 HQ.out.2.2.1 (by decide) (by decide)
          obtain ⟨d70, d71⟩ := HC2.out _ b7
          obtain ⟨a70, cvA⟩ := HA.out _ (H3.out.1.trans (b7.mono hlow3))
          have cvB := fun nq => (hrd7.drewN nq).cnv (c := c7)
          have cvX := fun nq => (((lok7 _ HQ.out.2.2.2.2.2).1.reads.1).drewN nq).cnv (c := xc)
          dsimp only at cvX
          have H7 := Lib.hid (And.intro pa7 (And.intro b7 (And.intro lok7 row7)))
          have z7 := X7.lt
          clear pa7 b7 X7 lok7 row7 tn7 hrd7 FT d0 d1 p1 p2 p3
          go_wp2_with fail
          go_quiet (fail)
          have bd : Below w7.heap.size w7 (w7.drewN nq) := bdr (Below.refl _ _) nq
          go_wp2
          exact ⟨⟨k + 1, K7, D7, rd7, ht7, rfl, by omega, H7.out.1.below bd, by omega, by omega, bdr H7.out.2.1 nq, own_kept_below H7.out.2.2.2 bd, fun y hy => ⟨(H7.out.2.2.1 y hy).1.below bd, (H7.out.2.2.1 y hy).2⟩⟩, by simp [intOf]; omega⟩
        · obtain rfl : m0 = k := by omega
          have HZ := Lib.hid (H3.out.1.trans (hb.mono hlow3))
          have hlz := HZ.out.size
          clear hps hb hrow hlok
          go_wp2_with fail
          refine (F.out _).mono ?_
          rintro e w9 ⟨rfl, hb9⟩
          have HE := Lib.hid (HZ.out.trans (hb9.mono hlz))
          clear hb9
          go_wp2
          go_ret
          exact ⟨rfl, HE.out⟩
end
end Go.Proofs.Ytdimkeoncgjegaa
