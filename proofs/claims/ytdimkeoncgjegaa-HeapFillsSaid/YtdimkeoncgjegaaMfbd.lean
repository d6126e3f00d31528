/-
  Several texts in one: IP.
-/
import Derived.Test.YtdimkeoncgjegaaMfba
import Derived.Test.YtdimkeoncgjegaaMfbc
import Derived.Deep.RegionHeld3
import Derived.Deep.QuietTactic
import Derived.BigQuiet
/-
  HeapFills: the law.
-/
namespace Go.Proofs.Ytdimkeoncgjegaa
section
set_option linter.unusedSimpArgs false
set_option linter.unusedVariables false
open Go.RowKit Go.Maps

/-- The two disks side by side: the program's, and the reference's in its block M. -/
structure LH (w wr : World) (M gd gb gt n : Nat) (A : Option Addr) (c : Nat) (A2 : Option Addr) (c2 : Nat) (ps : List (List UInt8)) (T : List Bool) : Prop where
  dp : DP wr gd gb gt n ps T
  bM : Blk wr M 32 #[.slice A n c, .slice A2 n c2]
  r1 : Reads wr wr.heap.size 1 A n (sL ps)
  r2 : Reads wr wr.heap.size 1 A2 n (tL T)
  c1 : n ≤ c
  c2 : n ≤ c2
  nA : ∀ ad, A = some ad → ad.block ≠ M ∧ ad.block ≠ gb ∧ ad.block ≠ gt
  nB : ∀ ad, A2 = some ad → ad.block ≠ M ∧ ad.block ≠ gb ∧ ad.block ≠ gt
  hb : Below w.heap.size w wr
  lM : w.heap.size ≤ M ∧ gd < M ∧ gb < M ∧ gt < M
  lg : w.heap.size ≤ gb ∧ w.heap.size ≤ gt
section
variable {w wr wr' : World} {M gd gb gt n c c2 : Nat} {A A2 : Option Addr} {ps : List (List UInt8)} {T : List Bool}
theorem LH.below (h : LH w wr M gd gb gt n A c A2 c2 ps T) (hb : Below wr.heap.size wr wr') : LH w wr' M gd gb gt n A c A2 c2 ps T :=
  ⟨h.dp.lower hb, h.bM.below hb h.bM.lt, (h.r1.below hb).more hb.size, (h.r2.below hb).more hb.size, h.c1, h.c2, h.nA, h.nB, bto0 h.hb hb, h.lM, h.lg⟩
theorem reads_lf {w w' : World} {gb gt sz n : Nat} {A : Option Addr} {xs : List Value} (h : Reads w w.heap.size sz A n xs) (lf : Lf w w' gb gt) (hne : ∀ ad, A = some ad → ad.block ≠ gb ∧ ad.block ≠ gt) : Reads w' w'.heap.size sz A n xs := by
  refine ⟨h.1, fun hn => ?_⟩
  obtain ⟨ad, e, hlt, hc⟩ := h.2 hn
  refine ⟨ad, e, Nat.lt_of_lt_of_le hlt lf.size, fun k u hu => ?_⟩
  have h1 := hc k u hu
  have h2 := lf.heap ad.block hlt (hne ad e).1 (hne ad e).2
  unfold World.cell? at h1 ⊢
  rw [block_of_add] at h1 ⊢
  rw [h2]
  exact h1
/-- Behind the program's Fill: the reference's disk is what it was. -/
structure LF (w wr : World) (M gd gb gt n : Nat) (A : Option Addr) (c : Nat) (A2 : Option Addr) (c2 : Nat) (ps : List (List UInt8)) (T : List Bool) (ps' : List (List UInt8)) (T' : List Bool) : Prop where
  dp : DP wr gd gb gt n ps' T'
  bM : Blk wr M 32 #[.slice A n c, .slice A2 n c2]
  r1 : Reads wr wr.heap.size 1 A n (sL ps)
  r2 : Reads wr wr.heap.size 1 A2 n (tL T)
  hb : Below w.heap.size w wr
theorem LH.fill (h : LH w wr M gd gb gt n A c A2 c2 ps T) {ps' : List (List UInt8)} {T' : List Bool} (dp : DP wr' gd gb gt n ps' T') (lf : Lf wr wr' gb gt) : LF w wr' M gd gb gt n A c A2 c2 ps T ps' T' :=
  ⟨dp, (lf.heap M h.bM.lt (by have := h.lM; omega) (by have := h.lM; omega)).trans h.bM, reads_lf h.r1 lf fun ad e => (h.nA ad e).2, reads_lf h.r2 lf fun ad e => (h.nB ad e).2, h.hb.trans (lf.below w.heap.size h.lg.1 h.lg.2 h.hb.size)⟩
theorem LF.below {ps' : List (List UInt8)} {T' : List Bool} (h : LF w wr M gd gb gt n A c A2 c2 ps T ps' T') (hb : Below wr.heap.size wr wr') : LF w wr' M gd gb gt n A c A2 c2 ps T ps' T' :=
  ⟨h.dp.lower hb, h.bM.below hb h.bM.lt, (h.r1.below hb).more hb.size, (h.r2.below hb).more hb.size, bto0 h.hb hb⟩
end
theorem fillP_bad {l ps : List (List UInt8)} {T : List Bool} (h : (fillP l ps T).err ≠ 0) : (fillP l ps T).first = 0 ∧ (fillP l ps T).rids = [] := by
  unfold fillP at h ⊢
  split at h
  · rename_i hok
    rw [if_pos hok]
    rcases hi : freeI T with _ | i
    · exact ⟨rfl, rfl⟩
    · rw [hi] at h
      simp only at h ⊢
      rcases hR : fillL l ps (T.set i true) i [] [] with ⟨a, b, o⟩
      rw [hR] at h
      cases o with
      | none => exact ⟨rfl, rfl⟩
      | some rids => exact absurd rfl h
  · rename_i hok
    rw [if_neg hok]
    exact ⟨rfl, rfl⟩
theorem fillP_err (l ps : List (List UInt8)) (T : List Bool) : (fillP l ps T).err = 0 ∨ (fillP l ps T).err = 1 ∨ (fillP l ps T).err = 7 := by
  unfold fillP
  split
  · rcases freeI T with _ | i
    · exact .inr (.inr rfl)
    · simp only
      rcases fillL l ps (T.set i true) i [] [] with ⟨a, b, o⟩
      cases o
      · exact .inr (.inr rfl)
      · exact .inl rfl
  · exact .inr (.inl rfl)
/-- What region 9 leaves: the reference's heap in a block of its own. -/
structure RH (w wx : World) (G2 : Nat) (h : Hh) (A A2 : Option Addr) (n : Nat) (R : FP) : Prop where
  bG : Blk wx G2 43 h.arr
  n : h.n = n
  c1 : h.n ≤ h.c
  c2 : h.n ≤ h.d
  r1 : Reads wx wx.heap.size 1 h.A h.n (sL R.ps)
  r2 : Reads wx wx.heap.size 1 h.B h.n (tL R.T)
  ok : R.err = 0 → h.first = R.first ∧ h.r = R.rids.length ∧ Reads wx wx.heap.size 2 h.D h.r (ridV R.rids) ∧ ∀ ad, h.D = some ad → w.heap.size ≤ ad.block
  hb : Below w.heap.size w wx
  oA : ∀ ad, h.A = some ad → A = some ad ∨ w.heap.size ≤ ad.block
  oB : ∀ ad, h.B = some ad → A2 = some ad ∨ w.heap.size ≤ ad.block
  lG : w.heap.size ≤ G2
set_option maxRecDepth 100000 in
set_option maxHeartbeats 16000000 in
theorem lawFills_any {w : World} {A0 A1 : Option Addr} {m0 c0 m1 c1 : Nat} {rows0 rows1 : List Rw} (hr0 : RRs w w.heap.size A0 m0 rows0) (hr1 : RRs w w.heap.size A1 m1 rows1) (hm0 : m0 ≤ 8796093022208) (hm1 : m1 ≤ 8796093022208) (pg : Int) :
    Calls Try.prog 3 #[.int .i64 pg, .slice A0 m0 c0, .slice A1 m1 c1] w (RetB w (.bool true)) := by
  have F := Lib.hid hfixed_any
  by_cases h1 : pg < 1
  · go_enter Try.func3, Try.ntmps3
    go_wp2_with fail
    refine (F.out _).mono ?_
    rintro e w1 ⟨rfl, hb1⟩
    go_wp2
    go_ret
    exact ⟨rfl, hb1⟩
  by_cases h2 : 30 < pg
  · go_enter Try.func3, Try.ntmps3
    go_wp2_with fail
    refine (F.out _).mono ?_
    rintro e w1 ⟨rfl, hb1⟩
    go_wp2
    go_ret
    exact ⟨rfl, hb1⟩
  obtain ⟨n, rfl⟩ : ∃ n : Nat, pg = (n : Int) := ⟨pg.toNat, by omega⟩
  have hn1 : 1 ≤ n := by omega
  have hn2 : n ≤ 30 := by omega
  have q1 : ¬ (n : Int) < 1 := h1
  have q2 : ¬ 30 < (n : Int) := h2
  have S0 := Lib.hid (small_any (c := c0) hr0 hm0)
  have S1 := Lib.hid (small_any (c := c1) hr1 hm1)
  have HR := Lib.hid (And.intro hr0 hr1)
  clear hr0 hr1 hm0 hm1 h1 h2
  go_enter Try.func3, Try.ntmps3
  go_wp2_with fail
  refine S0.out.mono ?_
  rintro e w1 ⟨b0, rfl, hb0, rfl⟩
  cases b0
  · go_wp2_with fail
    refine (F.out _).mono ?_
    rintro e w1 ⟨rfl, hb1⟩
    go_wp2
    go_ret
    exact ⟨rfl, hb1⟩
  have m0s := hb0 rfl
  go_wp2_with fail
  refine S1.out.mono ?_
  rintro e w1 ⟨b1, rfl, hb1, rfl⟩
  cases b1
  · go_wp2_with fail
    refine (F.out _).mono ?_
    rintro e w1 ⟨rfl, hb1⟩
    go_wp2
    go_ret
    exact ⟨rfl, hb1⟩
  have m1s := hb1 rfl
  clear hb0 hb1 S0 S1
  have ND := Lib.hid (newDP n hn1 (by omega) w)
  have NR := Lib.hid fun W => rnew_ok n hn1 (by omega) W
  obtain ⟨ps0, hps0⟩ : ∃ ps0, pagesOf (zb n) n = ps0 := ⟨_, rfl⟩
  obtain ⟨T0, hTT0⟩ : ∃ T0, marksOf (zb n) n = T0 := ⟨_, rfl⟩
  rw [hps0, hTT0] at ND NR
  clear hps0 hTT0
  go_wp2_with fail
  refine ND.out.mono ?_
  rintro e w1 ⟨gd, gb, gt, rfl, dp1, hg1, hg2, hg3, hb1⟩
  have lts1 := dp1.lts
  go_wp2_with fail
  refine (NR.out _).mono ?_
  rintro e w2 ⟨A, c, A2, c2, rfl, r1, r2, hc1, hc2, l1, l2, hb2⟩
  have z2 := hb2.size
  have L0 : LH w ((w2.alloc (.cells #[.slice A n c, .slice A2 n c2] 32)).alloc (.cells #[.slice A0 m0 c0, .slice A1 m1 c1] 22)) w2.heap.size gd gb gt n A c A2 c2 ps0 T0 := by
    have hx : LH w (w2.alloc (.cells #[.slice A n c, .slice A2 n c2] 32)) w2.heap.size gd gb gt n A c A2 c2 ps0 T0 := by
      refine ⟨(dp1.lower hb2).lower (ball (Below.refl _ _) _), Blk.new _ _ _, reads_alloc r1 _, reads_alloc r2 _, hc1, hc2, fun ad e => ?_, fun ad e => ?_, ball (bto0 hb1 hb2) _, ⟨?_, ?_, ?_, ?_⟩, hg2, hg3⟩
      · have h3 := l1 ad e
        obtain ⟨ad', e', h4, _⟩ := r1.2 (by omega)
        rw [e] at e'
        obtain rfl := Option.some.inj e'
        exact ⟨by omega, by omega, by omega⟩
      · have h3 := l2 ad e
        obtain ⟨ad', e', h4, _⟩ := r2.2 (by omega)
        rw [e] at e'
        obtain rfl := Option.some.inj e'
        exact ⟨by omega, by omega, by omega⟩
      · have := hb1.size; omega
      · omega
      · omega
      · omega
    exact hx.below (ball (Below.refl _ _) _)
  have BR : Blk ((w2.alloc (.cells #[.slice A n c, .slice A2 n c2] 32)).alloc (.cells #[.slice A0 m0 c0, .slice A1 m1 c1] 22)) (w2.heap.size + 1) 22 #[.slice A0 m0 c0, .slice A1 m1 c1] := Blk.newAt (by simp)
  have HL := Lib.hid (And.intro L0 BR)
  clear dp1 hg1 hg2 hg3 hb1 lts1 r1 r2 hc1 hc2 l1 l2 hb2 z2 ND NR L0 BR
  go_wp2_with fail
  obtain ⟨W0, hW0⟩ : ∃ W0, (w2.alloc (.cells #[.slice A n c, .slice A2 n c2] 32)).alloc (.cells #[.slice A0 m0 c0, .slice A1 m1 c1] 22) = W0 := ⟨_, rfl⟩
  rw [hW0] at HL ⊢
  clear hW0
  obtain ⟨M, hM⟩ : ∃ M, w2.heap.size = M := ⟨_, rfl⟩
  rw [hM] at HL ⊢
  clear hM
  go_loopw [12, 13, 14, 15, 16, 17, 18, 50] (fun u12 u13 u14 u15 u16 u17 u18 u50 wr => ∃ (j : Nat) (A : Option Addr) (c : Nat) (A2 : Option Addr) (c2 : Nat) (ps : List (List UInt8)) (T : List Bool), u50 = .int .i64 j ∧ j ≤ 2 ∧ LH w wr M gd gb gt n A c A2 c2 ps T ∧ Blk wr (M + 1) 22 #[.slice A0 m0 c0, .slice A1 m1 c1]) (fun _ _ _ _ _ _ _ u50 _ => 2 - (intOf u50).toNat)
  case atStart => exact ⟨0, A, c, A2, c2, ps0, T0, rfl, by omega, HL.out.1, HL.out.2⟩
  case round =>
    obtain ⟨wo, rfl⟩ : ∃ wo : World, wo = wr := ⟨_, rfl⟩
    obtain ⟨j, A, c, A2, c2, ps, T, rfl, hj, lh, br⟩ := hrel
    have j0 : (0 : Int) ≤ (j : Int) := by omega
    by_cases hlt : j < 2
    · have j2 : (j : Int) < 2 := by omega
      obtain ⟨A', m', c', rows', hcell, hrr, hm'⟩ : ∃ (A' : Option Addr) (m' c' : Nat) (rows' : List Rw), wo.cell? ⟨M + 1, j, none⟩ = some (.slice A' m' c') ∧ RRs w w.heap.size A' m' rows' ∧ m' ≤ 9000 := by
        rcases (by omega : j = 0 ∨ j = 1) with rfl | rfl
        · exact ⟨A0, m0, c0, rows0, br.cell 0, HR.out.1, m0s⟩
        · exact ⟨A1, m1, c1, rows1, br.cell 1, HR.out.2, m1s⟩
      have FI := Lib.hid (fill_any (B := w.heap.size) (c := c') lh.dp (by omega) hn1 (hrr.below lh.hb) lh.lg.1 lh.lg.2 lh.hb.size (by omega))
      have RFI : Hid (∀ (W : World) (B : Option Addr) (cb : Nat), Reads W W.heap.size 1 A n (sL ps) → Reads W W.heap.size 1 A2 n (tL T) → Reads W W.heap.size 1 B m' (sL (rows'.map Rw.l)) → Calls Try.prog 11 #[.agg #[.slice A n c, .slice A2 n c2], .slice B m' cb] W (RetRF W A A2 n (fillP (rows'.map Rw.l) ps T))) := Lib.hid fun W B cb h1 h2 h3 => rfill_any h1 h2 lh.c1 lh.c2 (by omega) h3 (by omega)
      have HB : Hid ((fillP (rows'.map Rw.l) ps T).err ≠ 0 → (fillP (rows'.map Rw.l) ps T).first = 0 ∧ (fillP (rows'.map Rw.l) ps T).rids = []) := Lib.hid fun h => fillP_bad h
      obtain ⟨R, hR⟩ : ∃ R, fillP (rows'.map Rw.l) ps T = R := ⟨_, rfl⟩
      rw [hR] at FI RFI HB
      have hlen : (rows'.map Rw.l).length = m' := by rw [List.length_map]; exact hrr.len
      have HH := Lib.hid (And.intro lh (And.intro br (And.intro hrr hlen)))
      have hMlt := lh.bM.lt
      have hMb := br.lt
      clear hR hrr lh br hlen
      go_wp2_with fail
      refine FI.out.mono ?_
      rintro e w3 ⟨Ax, cx, rfl, rrow, dp3, lf3⟩
      have lf := HH.out.1.fill dp3 lf3
      have br3 : Blk w3 (M + 1) 22 #[.slice A0 m0 c0, .slice A1 m1 c1] := (lf3.heap (M + 1) HH.out.2.1.lt (by have := HH.out.1.lM; omega) (by have := HH.out.1.lM; omega)).trans HH.out.2.1
      have TX : Hid (∀ W, Below w3.heap.size w3 W → Calls Try.prog 12 #[.slice A' m' c'] W (fun e w' => ∃ A4 c4, e = .returned (.slice A4 m' c4) ∧ Reads w' w'.heap.size 1 A4 m' (sL (rows'.map Rw.l)) ∧ Below W.heap.size W w')) := Lib.hid fun W hW => by
        have hbw := lf.hb.trans (hW.mono lf.hb.size)
        refine (texts_any (c := c') ⟨HH.out.2.2.1.len, (HH.out.2.2.1.outer.below hbw).more hbw.size, HH.out.2.2.1.cap, fun r hr => ((HH.out.2.2.1.inner r hr).below hbw).more hbw.size⟩ (by omega)).mono ?_
        rintro e w' ⟨A4, c4, rfl, own4, hb4⟩
        rw [HH.out.2.2.2] at own4 ⊢
        exact ⟨A4, c4, rfl, Reads.of_own own4, hb4⟩
      have HS : Hid (∀ W, Below w3.heap.size w3 W → W.cell? ⟨M, 0, none⟩ = some (.slice A n c) ∧ W.cell? ⟨M, 1, none⟩ = some (.slice A2 n c2)) := Lib.hid fun W hW => ⟨(lf.bM.below hW lf.bM.lt).cell 0, (lf.bM.below hW lf.bM.lt).cell 1⟩
      have H3 := Lib.hid (And.intro lf (And.intro br3 rrow))
      have hM3 := lf.bM.lt
      have hMb3 := br3.lt
      clear lf br3 rrow dp3 lf3 FI hMlt hMb hcell
      go_upto_region 9 with fail
      go_cut [16, 17] (fun s16 s17 wx => ∃ (G2 : Nat) (h : Hh), s16 = .pointer (some ⟨G2, 0, none⟩) ∧ s17 = .int .i64 R.err ∧ RH w3 wx G2 h A A2 n R)
      case first =>
          refine wp_region_held_drew (S := (fun w' => w'.cell? ⟨M, 0, none⟩ = some (.slice A n c) ∧ w'.cell? ⟨M, 1, none⟩ = some (.slice A2 n c2))) (by kernel_rfl) (HS.out _ (Below.refl _ _).drew) (fun hHeld => ?_)
          try dsimp only at hHeld
          refine wpAnyH_take (i := 0) (v := ?_) rfl (by kernel_rfl) (by kernel_rfl) (by kernel_rfl) (fun _ _ _ h => h) (Or.inl ⟨rfl, ?_⟩) hHeld ?_
          rotate_left
          focus (intro wx hSw; (try dsimp only at hSw); (try go_split_ands); go_simp; (try with_reducible rfl))
          try simp only [Act.put, List.getElem_toArray, List.getElem_cons_succ, List.getElem_cons_zero, List.setIfInBounds_toArray, List.set_cons_zero, List.set_cons_succ]
          refine wpAnyH_take (i := 1) (v := ?_) rfl (by kernel_rfl) (by kernel_rfl) (by kernel_rfl) (fun _ _ _ h => h) (Or.inl ⟨rfl, ?_⟩) hHeld ?_
          rotate_left
          focus (intro wx hSw; (try dsimp only at hSw); (try go_split_ands); go_simp; (try with_reducible rfl))
          try simp only [Act.put, List.getElem_toArray, List.getElem_cons_succ, List.getElem_cons_zero, List.setIfInBounds_toArray, List.set_cons_zero, List.set_cons_succ]
          refine wpAnyH_ready (rs := [2, 7]) (by kernel_rfl) (by simp) (AllReadyH.cons rfl (fun K hK => ?_) (AllReadyH.cons rfl (fun K hK => ?_) AllReadyH.nil))
          · go_simp
            (go_at_call 12; (with_reducible refine (TX.out _ (by with_reducible repeat (first | exact Below.refl _ _ | refine bdr ?_ _ | refine Below.drew ?_ | refine ball ?_ _))).mono ?_); rintro e w4 ⟨A4, c4, rfl, r4, hb4⟩)
            go_wp2_with fail
            refine hK.out _ _ ?_ (fun hHeld => ?_)
            · ((try dsimp only); (try dsimp only at hHeld); exact HS.out _ (by with_reducible repeat (first | exact Below.refl _ _ | exact hb4 | refine bto0 ?_ hb4 | refine bdr ?_ _ | refine Below.drew ?_ | refine ball ?_ _)))
            clear hK K
            try dsimp only at hHeld
            try simp only [Act.put, List.getElem_toArray, List.getElem_cons_succ, List.getElem_cons_zero, List.setIfInBounds_toArray, List.set_cons_zero, List.set_cons_succ]
            refine wpAnyH_ready (rs := [3, 7]) (by kernel_rfl) (by simp) (AllReadyH.cons rfl (fun K hK => ?_) (AllReadyH.cons rfl (fun K hK => ?_) AllReadyH.nil))
            · go_simp
              have b45 : Below w3.heap.size w3 w4 := (by with_reducible repeat (first | exact Below.refl _ _ | exact hb4 | refine bto0 ?_ hb4 | refine bdr ?_ _ | refine Below.drew ?_ | refine ball ?_ _))
              (go_at_call 11; (with_reducible refine (RFI.out _ A4 c4 ((H3.out.1.r1.below b45).more b45.size) ((H3.out.1.r2.below b45).more b45.size) r4).mono ?_); rintro e w5 ⟨h5, rfl, hn5, hc5, hd5, hr5, hs5, ho5, hb5, la5, lb5⟩)
              have HN5 := Lib.hid hn5
              clear hn5
              unfold Hh.arr
              go_wp2_with fail
              refine hK.out _ _ ?_ (fun hHeld => ?_)
              · ((try dsimp only); (try dsimp only at hHeld); exact HS.out _ (by with_reducible repeat (first | exact Below.refl _ _ | exact hb4 | exact hb5 | refine bto0 ?_ hb4 | refine bto0 ?_ hb5 | refine bdr ?_ _ | refine Below.drew ?_ | refine ball ?_ _)))
              clear hK K
              try dsimp only at hHeld
              try simp only [Act.put, List.getElem_toArray, List.getElem_cons_succ, List.getElem_cons_zero, List.setIfInBounds_toArray, List.set_cons_zero, List.set_cons_succ]
              refine wpAnyH_take (i := 4) (v := ?_) rfl (by kernel_rfl) (by kernel_rfl) (by kernel_rfl) (fun _ _ _ h => h) (Or.inl ⟨rfl, ?_⟩) hHeld ?_
              rotate_left
              focus (intro wx hSw; (try dsimp only at hSw); (try go_split_ands); go_simp; (try with_reducible rfl))
              try simp only [Act.put, List.getElem_toArray, List.getElem_cons_succ, List.getElem_cons_zero, List.setIfInBounds_toArray, List.set_cons_zero, List.set_cons_succ]
              refine wpAnyH_take (i := 5) (v := ?_) rfl (by kernel_rfl) (by kernel_rfl) (by kernel_rfl) (fun _ _ _ h => h) (Or.inl ⟨rfl, ?_⟩) hHeld ?_
              rotate_left
              focus (intro wx hSw; (try dsimp only at hSw); (try go_split_ands); go_simp; (try with_reducible rfl))
              try simp only [Act.put, List.getElem_toArray, List.getElem_cons_succ, List.getElem_cons_zero, List.setIfInBounds_toArray, List.set_cons_zero, List.set_cons_succ]
              refine wpAnyH_take (i := 6) (v := ?_) rfl (by kernel_rfl) (by kernel_rfl) (by kernel_rfl) (fun _ _ _ h => h) (Or.inl ⟨rfl, ?_⟩) hHeld ?_
              rotate_left
              focus (intro wx hSw; (try dsimp only at hSw); (try go_split_ands); go_simp; (try with_reducible rfl))
              try simp only [Act.put, List.getElem_toArray, List.getElem_cons_succ, List.getElem_cons_zero, List.setIfInBounds_toArray, List.set_cons_zero, List.set_cons_succ]
              refine wpAnyH_ready (rs := [7]) (by kernel_rfl) (by simp) (AllReadyH.cons rfl (fun K hK => ?_) AllReadyH.nil)
              go_simp
              have BK : Blk (w5.alloc (.cells #[.slice none 0 0, .slice none 0 0, .int .u32 0, .int .u32 0, .int .u32 0, .slice none 0 0, .slice none 0 0, .bool false] 43)) w5.heap.size 43 #[.slice none 0 0, .slice none 0 0, .int .u32 0, .int .u32 0, .int .u32 0, .slice none 0 0, .slice none 0 0, .bool false] := Blk.new _ _ _
              refine hK.out _ _ ?_ (fun hHeld => ?_)
              · ((try dsimp only); (try dsimp only at hHeld); exact HS.out _ (by with_reducible repeat (first | exact Below.refl _ _ | exact hb4 | exact hb5 | refine bto0 ?_ hb4 | refine bto0 ?_ hb5 | refine bdr ?_ _ | refine Below.drew ?_ | refine ball ?_ _)))
              clear hK K
              try dsimp only at hHeld
              try simp only [Act.put, List.getElem_toArray, List.getElem_cons_succ, List.getElem_cons_zero, List.setIfInBounds_toArray, List.set_cons_zero, List.set_cons_succ]
              refine wpAnyH_ready (rs := [8]) (by kernel_rfl) (by simp) (AllReadyH.cons rfl (fun K hK => ?_) AllReadyH.nil)
              go_simp
              refine hK.out _ _ ?_ (fun hHeld => ?_)
              · ((try dsimp only); (try dsimp only at hHeld); exact HS.out _ (by with_reducible repeat (first | exact Below.refl _ _ | exact hb4 | exact hb5 | refine bto0 ?_ hb4 | refine bto0 ?_ hb5 | refine bdr ?_ _ | refine Below.drew ?_ | refine ball ?_ _)))
              clear hK K
              try dsimp only at hHeld
              try simp only [Act.put, List.getElem_toArray, List.getElem_cons_succ, List.getElem_cons_zero, List.setIfInBounds_toArray, List.set_cons_zero, List.set_cons_succ]
              refine wpAnyH_take (i := 9) (v := ?_) rfl (by kernel_rfl) (by kernel_rfl) (by kernel_rfl) (fun _ _ _ h => h) (Or.inl ⟨rfl, ?_⟩) hHeld ?_
              rotate_left
              focus (intro wx hSw; (try dsimp only at hSw); (try go_split_ands); go_simp; (try with_reducible rfl))
              try simp only [Act.put, List.getElem_toArray, List.getElem_cons_succ, List.getElem_cons_zero, List.setIfInBounds_toArray, List.set_cons_zero, List.set_cons_succ]
              refine wpAnyH_done (by kernel_rfl) ?_ _
              clear hHeld
              have hn5 := HN5.out
              have z4 := hb4.size
              have z5 := hb5.size
              try simp at z4
              try simp at z5
              have bw5 : Below w3.heap.size w3 w5 := (by with_reducible repeat (first | exact Below.refl _ _ | exact hb4 | exact hb5 | refine bto0 ?_ hb4 | refine bto0 ?_ hb5 | refine bdr ?_ _ | refine Below.drew ?_ | refine ball ?_ _))
              obtain ⟨WL, hWL⟩ : ∃ WL, (w5.alloc (.cells #[.slice h5.A h5.n h5.c, .slice h5.B h5.n h5.d, .int .u32 h5.first, .int .u32 h5.at_, .int .u32 h5.next, .slice h5.C h5.k h5.e, .slice h5.D h5.r h5.f, .bool h5.began] 43)) = WL := ⟨_, rfl⟩
              have T1 : Blk WL w5.heap.size 43 h5.arr := hWL ▸ Blk.new _ _ _
              have BB : Below w3.heap.size w3 WL := hWL ▸ ball bw5 _
              have RR : RH w3 WL w5.heap.size h5 A A2 n R := ⟨T1, hn5, hc5, hd5, hWL ▸ reads_alloc hr5 _, hWL ▸ reads_alloc hs5 _, fun h => ⟨(ho5 h).1, (ho5 h).2.1, hWL ▸ reads_alloc (ho5 h).2.2.1 _, fun ad e => by have h8 := (ho5 h).2.2.2 ad e; (try simp at h8); omega⟩, BB, fun ad e => (la5 ad e).imp id (fun h => by (try simp at h); omega), fun ad e => (lb5 ad e).imp id (fun h => by (try simp at h); omega), by omega⟩
              rw [hWL]
              clear hWL
              go_wp2_with fail
              go_meet
              exact ⟨w5.heap.size, h5, rfl, rfl, RR⟩
            · go_simp
              have BK : Blk (w4.alloc (.cells #[.slice none 0 0, .slice none 0 0, .int .u32 0, .int .u32 0, .int .u32 0, .slice none 0 0, .slice none 0 0, .bool false] 43)) w4.heap.size 43 #[.slice none 0 0, .slice none 0 0, .int .u32 0, .int .u32 0, .int .u32 0, .slice none 0 0, .slice none 0 0, .bool false] := Blk.new _ _ _
              refine hK.out _ _ ?_ (fun hHeld => ?_)
              · ((try dsimp only); (try dsimp only at hHeld); exact HS.out _ (by with_reducible repeat (first | exact Below.refl _ _ | exact hb4 | refine bto0 ?_ hb4 | refine bdr ?_ _ | refine Below.drew ?_ | refine ball ?_ _)))
              clear hK K
              try dsimp only at hHeld
              try simp only [Act.put, List.getElem_toArray, List.getElem_cons_succ, List.getElem_cons_zero, List.setIfInBounds_toArray, List.set_cons_zero, List.set_cons_succ]
              refine wpAnyH_ready (rs := [3]) (by kernel_rfl) (by simp) (AllReadyH.cons rfl (fun K hK => ?_) AllReadyH.nil)
              go_simp
              have b45 : Below w3.heap.size w3 (w4.alloc (.cells #[.slice none 0 0, .slice none 0 0, .int .u32 0, .int .u32 0, .int .u32 0, .slice none 0 0, .slice none 0 0, .bool false] 43)) := (by with_reducible repeat (first | exact Below.refl _ _ | exact hb4 | refine bto0 ?_ hb4 | refine bdr ?_ _ | refine Below.drew ?_ | refine ball ?_ _))
              (go_at_call 11; (with_reducible refine (RFI.out _ A4 c4 ((H3.out.1.r1.below b45).more b45.size) ((H3.out.1.r2.below b45).more b45.size) (reads_alloc r4 _)).mono ?_); rintro e w5 ⟨h5, rfl, hn5, hc5, hd5, hr5, hs5, ho5, hb5, la5, lb5⟩)
              have HN5 := Lib.hid hn5
              clear hn5
              unfold Hh.arr
              have BK5 := BK.below hb5 BK.lt
              have y40 : w5.cell? ⟨w4.heap.size, 0, none⟩ = some (.slice none 0 0) := BK5.cell 0
              have v40 := BK5.frozen 0
              have y41 : w5.cell? ⟨w4.heap.size, 1, none⟩ = some (.slice none 0 0) := BK5.cell 1
              have v41 := BK5.frozen 1
              have y42 : w5.cell? ⟨w4.heap.size, 2, none⟩ = some (.int .u32 0) := BK5.cell 2
              have v42 := BK5.frozen 2
              have y43 : w5.cell? ⟨w4.heap.size, 3, none⟩ = some (.int .u32 0) := BK5.cell 3
              have v43 := BK5.frozen 3
              have y44 : w5.cell? ⟨w4.heap.size, 4, none⟩ = some (.int .u32 0) := BK5.cell 4
              have v44 := BK5.frozen 4
              have y45 : w5.cell? ⟨w4.heap.size, 5, none⟩ = some (.slice none 0 0) := BK5.cell 5
              have v45 := BK5.frozen 5
              have y46 : w5.cell? ⟨w4.heap.size, 6, none⟩ = some (.slice none 0 0) := BK5.cell 6
              have v46 := BK5.frozen 6
              have y47 : w5.cell? ⟨w4.heap.size, 7, none⟩ = some (.bool false) := BK5.cell 7
              have v47 := BK5.frozen 7
              have b5t : Below w3.heap.size w3 w5 := (by with_reducible repeat (first | exact Below.refl _ _ | exact hb4 | exact hb5 | refine bto0 ?_ hb4 | refine bto0 ?_ hb5 | refine bdr ?_ _ | refine Below.drew ?_ | refine ball ?_ _))
              have zt4 : w3.heap.size ≤ w4.heap.size := (show Below w3.heap.size w3 w4 from (by with_reducible repeat (first | exact Below.refl _ _ | exact hb4 | exact hb5 | refine bto0 ?_ hb4 | refine bto0 ?_ hb5 | refine bdr ?_ _ | refine Below.drew ?_ | refine ball ?_ _))).size
              go_wp2_with fail
              refine hK.out _ _ ?_ (fun hHeld => ?_)
              · ((try dsimp only); (try dsimp only at hHeld); exact HS.out _ (by with_reducible repeat (first | exact Below.refl _ _ | exact hb4 | exact hb5 | refine bto0 ?_ hb4 | refine bto0 ?_ hb5 | refine bdr ?_ _ | refine Below.drew ?_ | refine ball ?_ _)))
              clear hK K
              try dsimp only at hHeld
              try simp only [Act.put, List.getElem_toArray, List.getElem_cons_succ, List.getElem_cons_zero, List.setIfInBounds_toArray, List.set_cons_zero, List.set_cons_succ]
              refine wpAnyH_take (i := 4) (v := ?_) rfl (by kernel_rfl) (by kernel_rfl) (by kernel_rfl) (fun _ _ _ h => h) (Or.inl ⟨rfl, ?_⟩) hHeld ?_
              rotate_left
              focus (intro wx hSw; (try dsimp only at hSw); (try go_split_ands); go_simp; (try with_reducible rfl))
              try simp only [Act.put, List.getElem_toArray, List.getElem_cons_succ, List.getElem_cons_zero, List.setIfInBounds_toArray, List.set_cons_zero, List.set_cons_succ]
              refine wpAnyH_take (i := 5) (v := ?_) rfl (by kernel_rfl) (by kernel_rfl) (by kernel_rfl) (fun _ _ _ h => h) (Or.inl ⟨rfl, ?_⟩) hHeld ?_
              rotate_left
              focus (intro wx hSw; (try dsimp only at hSw); (try go_split_ands); go_simp; (try with_reducible rfl))
              try simp only [Act.put, List.getElem_toArray, List.getElem_cons_succ, List.getElem_cons_zero, List.setIfInBounds_toArray, List.set_cons_zero, List.set_cons_succ]
              refine wpAnyH_take (i := 6) (v := ?_) rfl (by kernel_rfl) (by kernel_rfl) (by kernel_rfl) (fun _ _ _ h => h) (Or.inl ⟨rfl, ?_⟩) hHeld ?_
              rotate_left
              focus (intro wx hSw; (try dsimp only at hSw); (try go_split_ands); go_simp; (try with_reducible rfl))
              try simp only [Act.put, List.getElem_toArray, List.getElem_cons_succ, List.getElem_cons_zero, List.setIfInBounds_toArray, List.set_cons_zero, List.set_cons_succ]
              refine wpAnyH_ready (rs := [8]) (by kernel_rfl) (by simp) (AllReadyH.cons rfl (fun K hK => ?_) AllReadyH.nil)
              go_simp
              refine hK.out _ _ ?_ (fun hHeld => ?_)
              · ((try dsimp only); (try dsimp only at hHeld); exact HS.out _ ((sets8 _ _ _ _ _ _ _ _).below b5t zt4))
              clear hK K
              try dsimp only at hHeld
              try simp only [Act.put, List.getElem_toArray, List.getElem_cons_succ, List.getElem_cons_zero, List.setIfInBounds_toArray, List.set_cons_zero, List.set_cons_succ]
              refine wpAnyH_take (i := 9) (v := ?_) rfl (by kernel_rfl) (by kernel_rfl) (by kernel_rfl) (fun _ _ _ h => h) (Or.inl ⟨rfl, ?_⟩) hHeld ?_
              rotate_left
              focus (intro wx hSw; (try dsimp only at hSw); (try go_split_ands); go_simp; (try with_reducible rfl))
              try simp only [Act.put, List.getElem_toArray, List.getElem_cons_succ, List.getElem_cons_zero, List.setIfInBounds_toArray, List.set_cons_zero, List.set_cons_succ]
              refine wpAnyH_done (by kernel_rfl) ?_ _
              clear hHeld
              have hn5 := HN5.out
              have z4 := hb4.size
              have z5 := hb5.size
              have zt := BK5.lt
              try simp at z4
              try simp at z5
              have bw5 : Below w3.heap.size w3 w5 := (by with_reducible repeat (first | exact Below.refl _ _ | exact hb4 | exact hb5 | refine bto0 ?_ hb4 | refine bto0 ?_ hb5 | refine bdr ?_ _ | refine Below.drew ?_ | refine ball ?_ _))
              obtain ⟨WL, hWL⟩ : ∃ WL, ((((((((w5.setCell ⟨w4.heap.size, 0, none⟩ (.slice h5.A h5.n h5.c)).setCell ⟨w4.heap.size, 1, none⟩ (.slice h5.B h5.n h5.d)).setCell ⟨w4.heap.size, 2, none⟩ (.int .u32 h5.first)).setCell ⟨w4.heap.size, 3, none⟩ (.int .u32 h5.at_)).setCell ⟨w4.heap.size, 4, none⟩ (.int .u32 h5.next)).setCell ⟨w4.heap.size, 5, none⟩ (.slice h5.C h5.k h5.e)).setCell ⟨w4.heap.size, 6, none⟩ (.slice h5.D h5.r h5.f)).setCell ⟨w4.heap.size, 7, none⟩ (.bool h5.began)) = WL := ⟨_, rfl⟩
              have SS : Sets w5 WL (w4.heap.size) := hWL ▸ sets8 _ _ _ _ _ _ _ _
              have T1 : Blk WL (w4.heap.size) 43 h5.arr := hWL ▸ blk8 BK5
              have BB : Below w3.heap.size w3 WL := SS.below bw5 (by omega)
              have sne : ∀ (X Y : Option Addr) (xs : List Value), Reads w3 w3.heap.size 1 X n xs → (∀ ad, Y = some ad → X = some ad ∨ (w4.alloc (.cells #[.slice none 0 0, .slice none 0 0, .int .u32 0, .int .u32 0, .int .u32 0, .slice none 0 0, .slice none 0 0, .bool false] 43)).heap.size ≤ ad.block) → 0 < h5.n → ∀ ad, Y = some ad → some (w4.heap.size) ≠ some ad.block := fun X Y xs hx hY hp ad e => by
                rcases hY ad e with h4 | h4
                · obtain ⟨ad2, e2, h6, _⟩ := hx.2 (by omega)
                  rw [h4] at e2
                  obtain rfl := Option.some.inj e2
                  simp; omega
                · (try simp at h4); simp; omega
              have hD : R.err = 0 → Reads WL WL.heap.size 2 h5.D h5.r (ridV R.rids) := fun h => reads_grown (ho5 h).2.2.1 SS.grown fun hp ad e => by
                intro e7
                obtain ⟨ad2, e2, h6, hcc⟩ := (ho5 h).2.2.1.2 hp
                rw [e] at e2
                obtain rfl := Option.some.inj e2
                have h8 := (ho5 h).2.2.2 ad e
                injection e7 with e7
                (try simp at h8); omega
              have RR : RH w3 WL (w4.heap.size) h5 A A2 n R := ⟨T1, hn5, hc5, hd5, reads_grown hr5 SS.grown (sne A h5.A _ H3.out.1.r1 la5), reads_grown hs5 SS.grown (sne A2 h5.B _ H3.out.1.r2 lb5), fun h => ⟨(ho5 h).1, (ho5 h).2.1, hD h, fun ad e => by have h8 := (ho5 h).2.2.2 ad e; (try simp at h8); omega⟩, BB, fun ad e => (la5 ad e).imp id (fun h => by (try simp at h); omega), fun ad e => (lb5 ad e).imp id (fun h => by (try simp at h); omega), by omega⟩
              rw [hWL]
              clear hWL
              go_wp2_with fail
              go_meet
              exact ⟨w4.heap.size, h5, rfl, rfl, RR⟩
          · go_simp
            have BK : Blk (w3.drew.alloc (.cells #[.slice none 0 0, .slice none 0 0, .int .u32 0, .int .u32 0, .int .u32 0, .slice none 0 0, .slice none 0 0, .bool false] 43)) w3.heap.size 43 #[.slice none 0 0, .slice none 0 0, .int .u32 0, .int .u32 0, .int .u32 0, .slice none 0 0, .slice none 0 0, .bool false] := Blk.new _ _ _
            refine hK.out _ _ ?_ (fun hHeld => ?_)
            · ((try dsimp only); (try dsimp only at hHeld); exact HS.out _ (by with_reducible repeat (first | exact Below.refl _ _ | refine bdr ?_ _ | refine Below.drew ?_ | refine ball ?_ _)))
            clear hK K
            try dsimp only at hHeld
            try simp only [Act.put, List.getElem_toArray, List.getElem_cons_succ, List.getElem_cons_zero, List.setIfInBounds_toArray, List.set_cons_zero, List.set_cons_succ]
            refine wpAnyH_ready (rs := [2]) (by kernel_rfl) (by simp) (AllReadyH.cons rfl (fun K hK => ?_) AllReadyH.nil)
            go_simp
            (go_at_call 12; (with_reducible refine (TX.out _ (by with_reducible repeat (first | exact Below.refl _ _ | refine bdr ?_ _ | refine Below.drew ?_ | refine ball ?_ _))).mono ?_); rintro e w4 ⟨A4, c4, rfl, r4, hb4⟩)
            have BK4 := BK.below hb4 BK.lt
            go_wp2_with fail
            refine hK.out _ _ ?_ (fun hHeld => ?_)
            · ((try dsimp only); (try dsimp only at hHeld); exact HS.out _ (by with_reducible repeat (first | exact Below.refl _ _ | exact hb4 | refine bto0 ?_ hb4 | refine bdr ?_ _ | refine Below.drew ?_ | refine ball ?_ _)))
            clear hK K
            try dsimp only at hHeld
            try simp only [Act.put, List.getElem_toArray, List.getElem_cons_succ, List.getElem_cons_zero, List.setIfInBounds_toArray, List.set_cons_zero, List.set_cons_succ]
            refine wpAnyH_ready (rs := [3]) (by kernel_rfl) (by simp) (AllReadyH.cons rfl (fun K hK => ?_) AllReadyH.nil)
            go_simp
            have b45 : Below w3.heap.size w3 w4 := (by with_reducible repeat (first | exact Below.refl _ _ | exact hb4 | refine bto0 ?_ hb4 | refine bdr ?_ _ | refine Below.drew ?_ | refine ball ?_ _))
            (go_at_call 11; (with_reducible refine (RFI.out _ A4 c4 ((H3.out.1.r1.below b45).more b45.size) ((H3.out.1.r2.below b45).more b45.size) r4).mono ?_); rintro e w5 ⟨h5, rfl, hn5, hc5, hd5, hr5, hs5, ho5, hb5, la5, lb5⟩)
            have HN5 := Lib.hid hn5
            clear hn5
            unfold Hh.arr
            have BK5 := BK4.below hb5 BK4.lt
            have y40 : w5.cell? ⟨w3.heap.size, 0, none⟩ = some (.slice none 0 0) := BK5.cell 0
            have v40 := BK5.frozen 0
            have y41 : w5.cell? ⟨w3.heap.size, 1, none⟩ = some (.slice none 0 0) := BK5.cell 1
            have v41 := BK5.frozen 1
            have y42 : w5.cell? ⟨w3.heap.size, 2, none⟩ = some (.int .u32 0) := BK5.cell 2
            have v42 := BK5.frozen 2
            have y43 : w5.cell? ⟨w3.heap.size, 3, none⟩ = some (.int .u32 0) := BK5.cell 3
            have v43 := BK5.frozen 3
            have y44 : w5.cell? ⟨w3.heap.size, 4, none⟩ = some (.int .u32 0) := BK5.cell 4
            have v44 := BK5.frozen 4
            have y45 : w5.cell? ⟨w3.heap.size, 5, none⟩ = some (.slice none 0 0) := BK5.cell 5
            have v45 := BK5.frozen 5
            have y46 : w5.cell? ⟨w3.heap.size, 6, none⟩ = some (.slice none 0 0) := BK5.cell 6
            have v46 := BK5.frozen 6
            have y47 : w5.cell? ⟨w3.heap.size, 7, none⟩ = some (.bool false) := BK5.cell 7
            have v47 := BK5.frozen 7
            have b5t : Below w3.heap.size w3 w5 := (by with_reducible repeat (first | exact Below.refl _ _ | exact hb4 | exact hb5 | refine bto0 ?_ hb4 | refine bto0 ?_ hb5 | refine bdr ?_ _ | refine Below.drew ?_ | refine ball ?_ _))
            have zt4 : w3.heap.size ≤ w3.heap.size := Nat.le_refl _
            go_wp2_with fail
            refine hK.out _ _ ?_ (fun hHeld => ?_)
            · ((try dsimp only); (try dsimp only at hHeld); exact HS.out _ (by with_reducible repeat (first | exact Below.refl _ _ | exact hb4 | exact hb5 | refine bto0 ?_ hb4 | refine bto0 ?_ hb5 | refine bdr ?_ _ | refine Below.drew ?_ | refine ball ?_ _)))
            clear hK K
            try dsimp only at hHeld
            try simp only [Act.put, List.getElem_toArray, List.getElem_cons_succ, List.getElem_cons_zero, List.setIfInBounds_toArray, List.set_cons_zero, List.set_cons_succ]
            refine wpAnyH_take (i := 4) (v := ?_) rfl (by kernel_rfl) (by kernel_rfl) (by kernel_rfl) (fun _ _ _ h => h) (Or.inl ⟨rfl, ?_⟩) hHeld ?_
            rotate_left
            focus (intro wx hSw; (try dsimp only at hSw); (try go_split_ands); go_simp; (try with_reducible rfl))
            try simp only [Act.put, List.getElem_toArray, List.getElem_cons_succ, List.getElem_cons_zero, List.setIfInBounds_toArray, List.set_cons_zero, List.set_cons_succ]
            refine wpAnyH_take (i := 5) (v := ?_) rfl (by kernel_rfl) (by kernel_rfl) (by kernel_rfl) (fun _ _ _ h => h) (Or.inl ⟨rfl, ?_⟩) hHeld ?_
            rotate_left
            focus (intro wx hSw; (try dsimp only at hSw); (try go_split_ands); go_simp; (try with_reducible rfl))
            try simp only [Act.put, List.getElem_toArray, List.getElem_cons_succ, List.getElem_cons_zero, List.setIfInBounds_toArray, List.set_cons_zero, List.set_cons_succ]
            refine wpAnyH_take (i := 6) (v := ?_) rfl (by kernel_rfl) (by kernel_rfl) (by kernel_rfl) (fun _ _ _ h => h) (Or.inl ⟨rfl, ?_⟩) hHeld ?_
            rotate_left
            focus (intro wx hSw; (try dsimp only at hSw); (try go_split_ands); go_simp; (try with_reducible rfl))
            try simp only [Act.put, List.getElem_toArray, List.getElem_cons_succ, List.getElem_cons_zero, List.setIfInBounds_toArray, List.set_cons_zero, List.set_cons_succ]
            refine wpAnyH_ready (rs := [8]) (by kernel_rfl) (by simp) (AllReadyH.cons rfl (fun K hK => ?_) AllReadyH.nil)
            go_simp
            refine hK.out _ _ ?_ (fun hHeld => ?_)
            · ((try dsimp only); (try dsimp only at hHeld); exact HS.out _ ((sets8 _ _ _ _ _ _ _ _).below b5t zt4))
            clear hK K
            try dsimp only at hHeld
            try simp only [Act.put, List.getElem_toArray, List.getElem_cons_succ, List.getElem_cons_zero, List.setIfInBounds_toArray, List.set_cons_zero, List.set_cons_succ]
            refine wpAnyH_take (i := 9) (v := ?_) rfl (by kernel_rfl) (by kernel_rfl) (by kernel_rfl) (fun _ _ _ h => h) (Or.inl ⟨rfl, ?_⟩) hHeld ?_
            rotate_left
            focus (intro wx hSw; (try dsimp only at hSw); (try go_split_ands); go_simp; (try with_reducible rfl))
            try simp only [Act.put, List.getElem_toArray, List.getElem_cons_succ, List.getElem_cons_zero, List.setIfInBounds_toArray, List.set_cons_zero, List.set_cons_succ]
            refine wpAnyH_done (by kernel_rfl) ?_ _
            clear hHeld
            have hn5 := HN5.out
            have z4 := hb4.size
            have z5 := hb5.size
            have zt := BK5.lt
            try simp at z4
            try simp at z5
            have bw5 : Below w3.heap.size w3 w5 := (by with_reducible repeat (first | exact Below.refl _ _ | exact hb4 | exact hb5 | refine bto0 ?_ hb4 | refine bto0 ?_ hb5 | refine bdr ?_ _ | refine Below.drew ?_ | refine ball ?_ _))
            obtain ⟨WL, hWL⟩ : ∃ WL, ((((((((w5.setCell ⟨w3.heap.size, 0, none⟩ (.slice h5.A h5.n h5.c)).setCell ⟨w3.heap.size, 1, none⟩ (.slice h5.B h5.n h5.d)).setCell ⟨w3.heap.size, 2, none⟩ (.int .u32 h5.first)).setCell ⟨w3.heap.size, 3, none⟩ (.int .u32 h5.at_)).setCell ⟨w3.heap.size, 4, none⟩ (.int .u32 h5.next)).setCell ⟨w3.heap.size, 5, none⟩ (.slice h5.C h5.k h5.e)).setCell ⟨w3.heap.size, 6, none⟩ (.slice h5.D h5.r h5.f)).setCell ⟨w3.heap.size, 7, none⟩ (.bool h5.began)) = WL := ⟨_, rfl⟩
            have SS : Sets w5 WL (w3.heap.size) := hWL ▸ sets8 _ _ _ _ _ _ _ _
            have T1 : Blk WL (w3.heap.size) 43 h5.arr := hWL ▸ blk8 BK5
            have BB : Below w3.heap.size w3 WL := SS.below bw5 (by omega)
            have sne : ∀ (X Y : Option Addr) (xs : List Value), Reads w3 w3.heap.size 1 X n xs → (∀ ad, Y = some ad → X = some ad ∨ w4.heap.size ≤ ad.block) → 0 < h5.n → ∀ ad, Y = some ad → some (w3.heap.size) ≠ some ad.block := fun X Y xs hx hY hp ad e => by
              rcases hY ad e with h4 | h4
              · obtain ⟨ad2, e2, h6, _⟩ := hx.2 (by omega)
                rw [h4] at e2
                obtain rfl := Option.some.inj e2
                simp; omega
              · (try simp at h4); simp; omega
            have hD : R.err = 0 → Reads WL WL.heap.size 2 h5.D h5.r (ridV R.rids) := fun h => reads_grown (ho5 h).2.2.1 SS.grown fun hp ad e => by
              intro e7
              obtain ⟨ad2, e2, h6, hcc⟩ := (ho5 h).2.2.1.2 hp
              rw [e] at e2
              obtain rfl := Option.some.inj e2
              have h8 := (ho5 h).2.2.2 ad e
              injection e7 with e7
              (try simp at h8); omega
            have RR : RH w3 WL (w3.heap.size) h5 A A2 n R := ⟨T1, hn5, hc5, hd5, reads_grown hr5 SS.grown (sne A h5.A _ H3.out.1.r1 la5), reads_grown hs5 SS.grown (sne A2 h5.B _ H3.out.1.r2 lb5), fun h => ⟨(ho5 h).1, (ho5 h).2.1, hD h, fun ad e => by have h8 := (ho5 h).2.2.2 ad e; (try simp at h8); omega⟩, BB, fun ad e => (la5 ad e).imp id (fun h => by (try simp at h); omega), fun ad e => (lb5 ad e).imp id (fun h => by (try simp at h); omega), by omega⟩
            rw [hWL]
            clear hWL
            go_wp2_with fail
            go_meet
            exact ⟨w3.heap.size, h5, rfl, rfl, RR⟩
      case rest =>
        obtain ⟨G2, h5, rfl, rfl, rh⟩ := hcut
        have x0 : wc.cell? ⟨G2, 0, none⟩ = some (.slice h5.A h5.n h5.c) := rh.bG.cell 0
        have x1 : wc.cell? ⟨G2, 1, none⟩ = some (.slice h5.B h5.n h5.d) := rh.bG.cell 1
        have lfc := H3.out.1.below rh.hb
        have y0 : wc.cell? ⟨M, 0, none⟩ = some (.slice A n c) := lfc.bM.cell 0
        have y1 : wc.cell? ⟨M, 1, none⟩ = some (.slice A2 n c2) := lfc.bM.cell 1
        have f0 := lfc.bM.frozen 0
        have f1 := lfc.bM.frozen 1
        have zG := rh.bG.lt
        have zM := lfc.bM.lt
        have HC := Lib.hid (And.intro rh lfc)
        clear rh lfc
        go_upto_region 11 with fail
        obtain ⟨W6, hW6⟩ : ∃ W6, (wc.setCell ⟨M, 0, none⟩ (.slice h5.A h5.n h5.c)).setCell ⟨M, 1, none⟩ (.slice h5.B h5.n h5.d) = W6 := ⟨_, rfl⟩
        have S6 : Sets wc W6 M := hW6 ▸ (((Sets.refl wc M).set 0 (.slice h5.A h5.n h5.c)).set 1 (.slice h5.B h5.n h5.d))
        have B6 : Blk W6 M 32 #[.slice h5.A h5.n h5.c, .slice h5.B h5.n h5.d] := by
          have T := (HC.out.2.bM.set_ 0 (.slice h5.A h5.n h5.c)).set_ 1 (.slice h5.B h5.n h5.d)
          simp only [List.setIfInBounds_toArray, List.set_cons_zero, List.set_cons_succ] at T
          exact hW6 ▸ T
        rw [hW6]
        clear hW6 x0 x1 y0 y1 f0 f1
        have hGM : G2 ≠ M := by have := HC.out.1.lG; omega
        have nX : ∀ (X Y : Option Addr) (xs : List Value), Reads wo wo.heap.size 1 X n xs → (∀ ad, X = some ad → ad.block ≠ M ∧ ad.block ≠ gb ∧ ad.block ≠ gt) → (∀ ad, Y = some ad → X = some ad ∨ w3.heap.size ≤ ad.block) → ∀ ad, Y = some ad → ad.block ≠ M ∧ ad.block ≠ gb ∧ ad.block ≠ gt := fun X Y xs hx hX hY ad e => by
          rcases hY ad e with h4 | h4
          · exact hX ad h4
          · have := HH.out.1.lM
            exact ⟨by omega, by omega, by omega⟩
        have nA6 := nX A h5.A _ HH.out.1.r1 HH.out.1.nA HC.out.1.oA
        have nB6 := nX A2 h5.B _ HH.out.1.r2 HH.out.1.nB HC.out.1.oB
        have lh6 : LH w W6 M gd gb gt n h5.A h5.c h5.B h5.d R.ps R.T := by
          have h9 := HC.out.1.n
          refine ⟨?_, by rw [← h9]; exact B6, by rw [← h9]; exact reads_grown HC.out.1.r1 S6.grown fun _ ad e => by have := (nA6 ad e).1; simp; omega, by rw [← h9]; exact reads_grown HC.out.1.r2 S6.grown fun _ ad e => by have := (nB6 ad e).1; simp; omega, by rw [← h9]; exact HC.out.1.c1, by rw [← h9]; exact HC.out.1.c2, nA6, nB6, S6.below HC.out.2.hb HH.out.1.lM.1, HH.out.1.lM, HH.out.1.lg⟩
          have hl := HC.out.2.dp.lts
          have hM := HH.out.1.lM
          exact HC.out.2.dp.same_ (S6.grown.block gd hl.1 (by simp; omega)) (S6.grown.block gb hl.2.1 (by simp; omega)) (S6.grown.block gt hl.2.2 (by simp; omega))
        have br6 : Blk W6 (M + 1) 22 #[.slice A0 m0 c0, .slice A1 m1 c1] := (H3.out.2.1.below HC.out.1.hb H3.out.2.1.lt).grown S6.grown (by simp)
        have bG6 := HC.out.1.bG.grown S6.grown (by simp; omega)
        have rid6 : Reads W6 W6.heap.size 2 Ax R.rids.length (ridV R.rids) := by
          refine reads_grown (((Reads.of_own H3.out.2.2).below HC.out.1.hb).more HC.out.1.hb.size) S6.grown fun hp ad e => ?_
          have h3 := own_hi H3.out.2.2 ad e
          have := HH.out.1.bM.lt
          simp; omega
        have SM := Lib.hid (same9_any lh6.dp (v := .agg #[.slice h5.A n h5.c, .slice h5.B n h5.d]) ⟨h5.A, h5.c, h5.B, h5.d, rfl, lh6.r1, lh6.r2, lh6.c1, lh6.c2⟩ (by omega) hn1)
        have y0 : W6.cell? ⟨M, 0, none⟩ = some (.slice h5.A n h5.c) := lh6.bM.cell 0
        have y1 : W6.cell? ⟨M, 1, none⟩ = some (.slice h5.B n h5.d) := lh6.bM.cell 1
        have rd6 : R.err = 0 → Reads W6 W6.heap.size 2 h5.D h5.r (ridV R.rids) := fun h => reads_grown (HC.out.1.ok h).2.2.1 S6.grown fun hp ad e => by have h3 := (HC.out.1.ok h).2.2.2 ad e; simp; omega
        have H6 := Lib.hid (And.intro lh6 (And.intro br6 (And.intro bG6 (And.intro rid6 rd6))))
        clear S6 B6 nX nA6 nB6 lh6 br6 bG6 rid6 rd6
        go_wp2_with fail
        refine SM.out.mono ?_
        rintro e w7 ⟨rfl, hb7⟩
        have lh7 := H6.out.1.below hb7
        have br7 := H6.out.2.1.below hb7 H6.out.2.1.lt
        have bG7 := H6.out.2.2.1.below hb7 H6.out.2.2.1.lt
        have rid7 := (H6.out.2.2.2.1.below hb7).more hb7.size
        have rd7 : R.err = 0 → Reads w7 w7.heap.size 2 h5.D h5.r (ridV R.rids) := fun h => ((H6.out.2.2.2.2 h).below hb7).more hb7.size
        have H7 := Lib.hid (And.intro lh7 (And.intro br7 (And.intro bG7 (And.intro rid7 rd7))))
        clear lh7 br7 bG7 rid7 rd7 SM y0 y1
        by_cases hE : R.err = 0
        rotate_left
        · have eE : (R.err != 0) = true := by simpa using hE
          have hz := HB.out hE
          have eF : ((R.first : Int) != 0) = false := by rw [hz.1]; rfl
          have eL : ((R.rids.length : Int) != 0) = false := by rw [hz.2]; rfl
          clear hE hz
          go_wp2_with fail
          go_roundw
          case rel =>
            exact ⟨j + 1, h5.A, h5.c, h5.B, h5.d, R.ps, R.T, by go_num, by omega, H7.out.1, H7.out.2.1⟩
          case measure => simp [intOf]; omega
        · have eE : (R.err != 0) = false := by rw [hE]; rfl
          have hok := HC.out.1.ok hE
          have k2 : w7.cell? ⟨G2, 2, none⟩ = some (.int .u32 R.first) := by rw [← hok.1]; exact H7.out.2.2.1.cell 2
          have rd7 := H7.out.2.2.2.2 hE
          have k6 : w7.cell? ⟨G2, 6, none⟩ = some (.slice h5.D h5.r h5.f) := H7.out.2.2.1.cell 6
          rw [hok.2.1] at rd7 k6
          have rid7 := H7.out.2.2.2.1
          have hcap := own_cap H3.out.2.2
          have hcl : R.rids.length ≤ cx := by
            obtain ⟨_, _, e, hc⟩ := own_form H3.out.2.2
            simp only [Value.slice.injEq] at e
            omega
          obtain ⟨L, hL⟩ : ∃ L, R.rids.length = L := ⟨_, rfl⟩
          have eLL : L ≤ 9223372036854775807 := by unfold maxLen at hcap; omega
          have eLI : (L : Int) ≤ 9223372036854775807 := by omega
          obtain ⟨D5, hD5⟩ : ∃ D5, h5.D = D5 := ⟨_, rfl⟩
          rw [hD5] at rd7 k6
          rw [hL] at rd7 k6 rid7 ⊢
          have HG7 : Hid (∀ W, Below w7.heap.size w7 W → W.cell? ⟨G2, 6, none⟩ = some (.slice D5 L h5.f)) := Lib.hid fun W hW => (hW.cell H7.out.2.2.1.lt).trans k6
          have HD := Lib.hid (And.intro rid7 rd7)
          clear hE hok rd7 rid7 hD5 hL hcap hcl
          go_wp2_with fail
          go_loopw [18, 102] (fun u18 u102 wr => ∃ i : Nat, u102 = .int .i64 i ∧ i ≤ L ∧ Below w7.heap.size w7 wr) (fun _ u102 _ => L - (intOf u102).toNat)
          case atStart => exact ⟨0, rfl, by omega, Below.refl _ _⟩
          case round =>
            obtain ⟨wq, rfl⟩ : ∃ wq : World, wq = wr := ⟨_, rfl⟩
            obtain ⟨i, rfl, hi, hbq⟩ := hrel
            have i0 : (0 : Int) ≤ (i : Int) := by omega
            by_cases hil : i < L
            · have i1 : (i : Int) < (L : Int) := by omega
              obtain ⟨ad, v, rfl, had, hv, p0, p1⟩ := (HD.out.1.below hbq).rid hil
              obtain ⟨ad2, v2, rfl, had2, hv2, s0, s1⟩ := (HD.out.2.below hbq).rid hil
              have hvv : v2 = v := by rw [hv] at hv2; exact (Option.some.inj hv2).symm
              subst hvv
              have k6 := HG7.out wq hbq
              have HQ := Lib.hid hbq
              clear hbq hv hv2
              go_wp2_with fail
              go_quiet (fail)
              go_wp2
              exact ⟨⟨i + 1, rfl, by omega, bdr HQ.out nq⟩, by simp [intOf]; omega⟩
            · have HQ := Lib.hid hbq
              clear hbq
              go_wp2_with fail
              go_roundw
              case rel =>
                exact ⟨j + 1, h5.A, h5.c, h5.B, h5.d, R.ps, R.T, by go_num, by omega, H7.out.1.below HQ.out, H7.out.2.1.below HQ.out H7.out.2.1.lt⟩
              case measure => simp [intOf]; omega
    · obtain rfl : j = 2 := by omega
      have HQ := Lib.hid lh.hb
      clear lh br
      go_wp2_with fail
      refine (F.out _).mono ?_
      rintro e w9 ⟨rfl, hb9⟩
      have HE := Lib.hid (bto0 HQ.out hb9)
      clear hb9
      go_wp2
      go_ret
      exact ⟨rfl, HE.out⟩
end
end Go.Proofs.Ytdimkeoncgjegaa
