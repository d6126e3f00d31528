/-
  Several texts in one: L7.
-/
import Derived.Test.YtjlpfhioacphkaaMsbu
import Derived.Test.YtjlpfhioacphkaaMsbv
import Derived.Test.YtjlpfhioacphkaaMsbb
/-
  Books on a disk: the program's Store: whatever it writes, all but the disk stays, and the disk is one.
-/
namespace Go.Proofs.Ytjlpfhioacphkaa
section
set_option linter.unusedSimpArgs false
set_option linter.unusedVariables false
open Go.RowKit Go.Maps

/-- What Store leaves. -/
def RetSt (w : World) (g gb gt n : Nat) (l : List Tb) (r : List Ix) (e : Ending) (w' : World) : Prop :=
  ∃ (E : Int) (ps' : List (List UInt8)) (T' : List Bool), e = .returned (.int .i64 E) ∧ DP w' g gb gt n ps' T' ∧ Lf w w' gb gt ∧ (MayB (pbk l r) → (bookB (pbk l r)).length ≤ 504 → E = 0)
theorem bookB_len {b : PB12} (h : MayB b) : (bookB b).length ≤ 8200 := by
  have MT : ∀ t ∈ b.ts, MayT t := fun t ht => by
    obtain ⟨i, hi, he⟩ := List.mem_iff_getElem.1 ht
    exact (h.2.2.1 i hi t (by rw [List.getElem?_eq_getElem hi, he])).1
  have MX : ∀ x ∈ b.xs, MayX b.ts x := fun t ht => by
    obtain ⟨i, hi, he⟩ := List.mem_iff_getElem.1 ht
    exact (h.2.2.2 i hi t (by rw [List.getElem?_eq_getElem hi, he])).1
  have := putX_len MT MX h.1 b.xs.length h.2.1
  unfold putX putL at this
  rw [List.take_length, List.take_length] at this
  unfold bookB
  exact this
theorem own_lit {w : World} {t : TypeId} {g : Nat} (hg : g = w.heap.size) (v : Value) : (w.alloc (.cells #[v] t)).ownsRow w.heap.size t 1 (.slice (some ⟨g, 0, none⟩) 1 1) 1 [v] := by
  subst hg
  exact ⟨rfl, .inr ⟨w.heap.size, 1, #[v], rfl, Nat.le_refl _, heap_alloc_new w _, Nat.le_refl _, by decide, by simp, rfl⟩⟩
section
variable {w w' w0 : World} {g gb gt n : Nat} {ps : List (List UInt8)} {T : List Bool}
theorem DP.chg (h : DP w g gb gt n ps T) (c : ChgT 53 w w') : DP w' g gb gt n ps T :=
  h.same_ ((c.blk h.dk.d (by decide)).trans h.dk.d.symm) ((c.blk h.dk.b (by decide)).trans h.dk.b.symm) ((c.blk h.dk.t (by decide)).trans h.dk.t.symm)
theorem Lf.pushed (h : Lf w0 w gb gt) {base size k : Nat} {e : TypeId} {v : Value} {xs : List Value} {o : Obj} (ho : w.ownsRow base e size v k xs) (hb : w0.heap.size ≤ base) (hg : (w.alloc o).grownBy w' v.ownBlock) : Lf w0 w' gb gt :=
  ⟨fun B h1 h2 h3 => (h.below B h1 h2 h3).trans (below_push ho hg (Nat.le_trans h3 hb) (Nat.le_trans h3 h.size)), fun g' h1 h2 h3 => ((below_push ho hg hb h.size).block g' h1).trans (h.heap g' h1 h2 h3), Nat.le_trans h.size (below_push ho hg hb h.size).size⟩
end
set_option maxRecDepth 100000 in
set_option maxHeartbeats 8000000 in
theorem store12_any {w : World} {g gb gt n : Nat} {ps : List (List UInt8)} {T : List Bool} (h : DP w g gb gt n ps T) (h1n : 1 ≤ n) (hn : n ≤ 1000) (A : Option Addr) (na c : Nat) (l : List Tb) (B : Option Addr) (m d : Nat) (r : List Ix) (hk : BkIn w A na c l B m d r) :
    Calls Try.prog 7 #[.pointer (some ⟨g, 0, none⟩), .agg #[.slice A na c, .slice B m d]] w (RetSt w g gb gt n l r) := by
  obtain ⟨i0, hi0, hz0, hs0, hy0⟩ := int_info8 Try.infoPg
  have hb0 := ball (Below.refl w.heap.size w) (.cells #[.slice A na c, .slice B m d] 25)
  by_cases hmay : MayB (pbk l r)
  rotate_left
  · have PN := Lib.hid (put_no A na c l B m d r _ (hk.below hb0) hmay)
    have H0 := Lib.hid (And.intro h (And.intro hb0 hmay))
    clear h hk hb0 hmay
    go_enter Try.func7, Try.ntmps7
    go_wp2_with fail
    refine PN.out.mono ?_
    rintro e w1 ⟨rfl, hb1⟩
    have H1 := Lib.hid (bto0 H0.out.2.1 hb1)
    clear hb1 PN
    go_wp2
    go_ret
    exact ⟨1, ps, T, rfl, H0.out.1.lower H1.out, Lf.of_below H1.out, fun hm _ => absurd hm H0.out.2.2⟩
  have PA := Lib.hid (put_any A na c l B m d r _ (hk.below hb0) hmay)
  have hbl := bookB_len hmay
  obtain ⟨bk, hbk⟩ : ∃ bk, bookB (pbk l r) = bk := ⟨_, rfl⟩
  rw [hbk] at PA hbl
  have HBK := Lib.hid hbk
  have H0 := Lib.hid (And.intro h (And.intro hb0 hbl))
  clear h hk hb0 hmay hbk
  go_enter Try.func7, Try.ntmps7
  go_wp2_with fail
  refine PA.out.mono ?_
  rintro e w1 ⟨A5, N5, c5, rfl, own1, hb1⟩
  obtain ⟨A', c', e', hc5⟩ := Own.form own1
  injection e' with e1 e2 e3
  subst e1
  subst e2
  subst e3
  obtain ⟨N, hN⟩ : ∃ N, bk.length = N := ⟨_, rfl⟩
  rw [hN] at own1 hbl hc5 ⊢
  have bw1 := bto0 H0.out.2.1 hb1
  have bw2 := ball bw1 (.cells #[.int .u32 ((0 : Nat) : Int)] 53)
  have own2 := own1.alloc (.cells #[.int .u32 ((0 : Nat) : Int)] 53)
  have pg2 : (w1.alloc (.cells #[.int .u32 ((0 : Nat) : Int)] 53)).ownsRow (w.heap.size + 1) 53 1 (.slice (some ⟨w1.heap.size, 0, none⟩) 1 1) 1 (pnV [0]) := World.ownsRow.mono (own_lit rfl (.int .u32 ((0 : Nat) : Int))) (by have := hb1.size; simpa using this)
  have dp2 := H0.out.1.lower bw2
  have lf2 := Lf.of_below (gb := gb) (gt := gt) bw2
  rw [show ((0 : Nat) : Int) = 0 from rfl] at own2 pg2 dp2 lf2
  have H2 := Lib.hid (And.intro own2 (And.intro pg2 (And.intro dp2 lf2)))
  have HN := Lib.hid hN
  have NI : (N : Int) ≤ 8200 := by omega
  clear own1 hb1 bw1 bw2 own2 pg2 dp2 lf2 PA hN
  go_wp2_with fail
  go_loopw [7] (fun u7 wr => ∃ (k : Nat) (A7 : Option Addr) (c7 : Nat) (P : List Nat) (T' : List Bool), u7 = .slice A7 k c7 ∧ 1 ≤ k ∧ k ≤ 17 ∧ P.length = k ∧ (∀ p ∈ P, p < n) ∧ Own wr w.heap.size (.slice A5 N c5) bk ∧ wr.ownsRow w.heap.size 53 1 (.slice A7 k c7) k (pnV P) ∧ DP wr g gb gt n ps T' ∧ Lf w wr gb gt) (fun u7 _ => 100 - lenOf u7)
  case atStart => exact ⟨1, _, 1, [0], T, rfl, Nat.le_refl _, by omega, rfl, fun p hp => by rw [List.mem_singleton] at hp; omega, H2.out.1.less (by simp), World.ownsRow.mono H2.out.2.1 (by omega), H2.out.2.2.1, H2.out.2.2.2⟩
  case round =>
    obtain ⟨wo, rfl⟩ : ∃ wo : World, wo = wr := ⟨_, rfl⟩
    obtain ⟨k, A7, c7, P, T1, rfl, hk1, hk2, hPk, hPn, hown, hpg, hdp, hlf⟩ := hrel
    have k0 : (0 : Int) ≤ (k : Int) := by omega
    have kI : (k : Int) ≤ 17 := by omega
    have hsz := hlf.size
    have HTK : (∃ i, i < n ∧ Hid (Calls Try.prog 20 #[.pointer (some ⟨g, 0, none⟩)] wo fun e w' => e = .returned (.tuple #[.int .u32 i, .int .i64 0]) ∧ Left wo w' g gb gt n ps (T1.set i true))) ∨ Hid (Calls Try.prog 20 #[.pointer (some ⟨g, 0, none⟩)] wo fun e w' => e = .returned (.tuple #[.int .u32 0, .int .i64 7]) ∧ wo = w') := by
      rcases freeI_cases T1 with ⟨i, f1, f2, f3⟩ | ⟨f1, f2⟩
      · exact .inl ⟨i, by rw [← hdp.hT]; exact lt_of_at f2, takeDP hdp (by omega) i f2 f3⟩
      · exact .inr (take_fullDP hdp (by omega) (fun j hj => f2 j (by rw [hdp.hT]; exact hj)))
    have hl := hdp.lts
    have HL0 := Lib.hid H0.out.1.lts
    have HO := Lib.hid (And.intro hown (And.intro hpg (And.intro hdp (And.intro hlf (And.intro hPk hPn)))))
    clear hown hpg hdp hlf hPk hPn hl
    by_cases hlt : k * 504 < N
    · have e1 : (k : Int) * 504 < (N : Int) := by omega
      rcases HTK with ⟨i, hin, TK⟩ | TK
      · go_wp2_with fail
        refine TK.out.mono ?_
        rintro e w3 ⟨rfl, lf3⟩
        have L3 : Lf wo w3 gb gt := Lf.of_left lf3
        have own3 := L3.own HO.out.1 HL0.out.2.1 HL0.out.2.2
        have pg3 := L3.own HO.out.2.1 HL0.out.2.1 HL0.out.2.2
        have lfw := HO.out.2.2.2.1.trans L3
        have hs3 : w.heap.size ≤ w3.heap.size := lfw.size
        have H3 := Lib.hid (And.intro own3 (And.intro pg3 (And.intro lf3.1 lfw)))
        clear lf3 L3 own3 pg3 lfw TK
        go_wp2_with (at_builtin; refine wpList_pushR (news := [.int .u32 (i : Int)]) rfl (.tmp 41) (.tmp 43) 41 rfl w.heap.size 53 i0 _ 1 4 Try.underlying41 hi0 hz0 hs0 hy0 rfl (by decide) (.slice A7 k c7) k _ (by first | rfl | (simp [Act.eval, Act.put]; done)) H3.out.2.1 rfl _ (by first | rfl | (simp [Act.eval, Act.put]; done)) (by first | rfl | simp) rfl (by intro u hu; rw [List.mem_singleton] at hu; subst hu; rfl) (by omega) (by omega) (by omega) ?_; intro v9 w9 own9 kp9 ob9; obtain ⟨A9, c9, rfl, hc9⟩ := own_form own9; have ch9 := ChgT.push H3.out.2.1 kp9; have o9 : Own w9 w.heap.size (.slice A5 N c5) bk := ch9.own H3.out.1 (by decide); have d9 := H3.out.2.2.1.chg ch9; have l9 := H3.out.2.2.2.pushed H3.out.2.1 (Nat.le_refl _) kp9; rw [← pnV_snoc] at own9; have H9 := Lib.hid (And.intro own9 (And.intro o9 (And.intro d9 l9))); clear own9 kp9 ob9 ch9 o9 d9 l9)
        refine ⟨⟨k + 1, A9, c9, P ++ [i], T1.set i true, rfl, by omega, by omega, by rw [List.length_append, HO.out.2.2.2.2.1]; rfl, fun p hp => ?_, H9.out.2.1, H9.out.1, H9.out.2.2.1, H9.out.2.2.2⟩, by simp [lenOf]; omega⟩
        rcases List.mem_append.1 hp with h | h
        · exact HO.out.2.2.2.2.2 p h
        · rw [List.mem_singleton] at h
          omega
      · go_wp2_with fail
        refine TK.out.mono ?_
        rintro e w3 ⟨rfl, rfl⟩
        have HLT := Lib.hid hlt
        go_wp2
        go_ret
        exact ⟨7, ps, T1, rfl, HO.out.2.2.1, HO.out.2.2.2.1, fun _ h => by rw [HBK.out, HN.out] at h; omega⟩
    · have e1 : (N : Int) ≤ (k : Int) * 504 := by omega
      clear HTK
      have hk10 : 0 < k := by omega
      obtain ⟨ad, rfl, had0, hpc⟩ : ∃ ad, A7 = some ad ∧ ad.block < wo.heap.size ∧ True := by
        obtain ⟨ad, e, hb, _⟩ := (Reads.of_own HO.out.2.1).2 (by omega)
        exact ⟨ad, e, hb, trivial⟩
      have hi8 : (Try.prog.info? 5).map (·.size) = some 1 := by
        obtain ⟨j0, hj0, _, hjs, _⟩ := int_info8 Try.infoB
        rw [hj0, Option.map_some, hjs]
      have HI := Lib.hid hi8
      clear hk10 hpc had0 hi8
      go_wp2_with fail
      go_loopw [5, 47] (fun u5 u47 wr => ∃ (i : Nat) (A9 : Option Addr) (m9 c9 off : Nat) (ps' : List (List UInt8)) (T' : List Bool), u47 = .int .i64 i ∧ i ≤ k ∧ u5 = .slice A9 m9 c9 ∧ m9 ≤ c9 ∧ m9 ≤ 8200 ∧ (∀ (W : World) (B' : Nat), Reads W B' 1 A5 N (bL bk) → Reads W B' 1 A9 m9 (bL (bk.drop off))) ∧ Own wr w.heap.size (.slice A5 N c5) bk ∧ wr.ownsRow w.heap.size 53 1 (.slice (some ad) k c7) k (pnV P) ∧ DP wr g gb gt n ps' T' ∧ Lf w wr gb gt) (fun _ u47 _ => k - (intOf u47).toNat)
      case atStart => exact ⟨0, A5, N, c5, 0, ps, T1, rfl, by omega, rfl, hc5, hbl, fun W B' h => h, HO.out.1, HO.out.2.1, HO.out.2.2.1, HO.out.2.2.2.1⟩
      case round =>
        obtain ⟨wi, rfl⟩ : ∃ wi : World, wi = wr := ⟨_, rfl⟩
        obtain ⟨i, A9, m9, c9, off, ps9, T9, rfl, hik, rfl, hm9, hm9b, hrd, hown, hpg, hdp, hlf⟩ := hrel
        have q0 : (0 : Int) ≤ (i : Int) := by omega
        have hsz9 := hlf.size
        by_cases hlt2 : i < k
        · have q1 : (i : Int) < (k : Int) := by omega
          have pgr := Reads.of_own hpg
          have pat : ∀ j : Nat, j < k → ∃ p, P[j]? = some p ∧ p < n ∧ wi.cell? (ad.add j) = some (.int .u32 (p : Int)) := by
            intro j hj
            obtain ⟨ad', u, e, hb, hu, hc⟩ := pgr.at_ hj
            injection e with e
            subst e
            unfold pnV at hu
            rw [List.getElem?_map, Option.map_eq_some_iff] at hu
            obtain ⟨p, hp, rfl⟩ := hu
            exact ⟨p, hp, HO.out.2.2.2.2.2 p (List.mem_of_getElem? hp), hc⟩
          obtain ⟨p, hp1, hp2, hpc⟩ := pat i hlt2
          have hnext : ∃ nx : Nat, nx ≤ 1000 ∧ ((i + 1 < k ∧ wi.cell? ⟨ad.block, ad.off + (i + 1), none⟩ = some (.int .u32 (nx : Int))) ∨ (¬ i + 1 < k ∧ nx = 0)) := by
            by_cases h : i + 1 < k
            · obtain ⟨p', _, h2, h3⟩ := pat (i + 1) h
              exact ⟨p', by omega, .inl ⟨h, by rw [← h3]; congr 1⟩⟩
            · exact ⟨0, by omega, .inr ⟨h, rfl⟩⟩
          obtain ⟨nx, hnx, hnext⟩ := hnext
          obtain ⟨kk, hkk⟩ : ∃ kk, min m9 504 = kk := ⟨_, rfl⟩
          have hkm : kk ≤ m9 := by omega
          have hk5 : kk ≤ 504 := by omega
          have hmn : min (m9 : Int) 504 = (kk : Int) := by omega
          have hkI0 : (0 : Int) ≤ (kk : Int) := by omega
          have hkI5 : (kk : Int) ≤ 504 := by omega
          obtain ⟨Ap, cp, rdp⟩ := cutb_hi (A := A9) (n := m9) (c := c9) .i64 kk (kk : Int) rfl hkm hm9
          obtain ⟨Aq, cq, rdq⟩ := cutb_lo (A := A9) (n := m9) (c := c9) .i64 kk (kk : Int) rfl hkm hm9
          have PU : Hid (∀ W, Calls Try.prog 21 #[.agg #[.int .u8 4, .int .u16 (kk : Int), .int .u32 (nx : Int)]] W (RetHead W 4 kk nx)) := Lib.hid fun W => dput_any 4 kk nx (by omega) (by omega) W
          have HP := Lib.hid (And.intro hown (And.intro hpg (And.intro hdp (And.intro hlf (And.intro hrd (And.intro rdp (And.intro rdq hkk)))))))
          have HLT := Lib.hid (And.intro hlt2 hp2)
          clear hown hpg hdp hlf hrd rdp rdq pat pgr hp1 hkk hp2 hlt2
          rcases hnext with ⟨hn1, hnc⟩ | ⟨hn1, rfl⟩
          · have e2 : (i : Int) + 1 < (k : Int) := by omega
            have e3 : (0 : Int) ≤ (i : Int) + 1 := by omega
            have PUX := PU
            clear PU
            go_wp2_with fail
            refine (PUX.out wi).mono ?_
            rintro e w3 ⟨g3, rfl, hB3, hg3, hb3⟩
            obtain ⟨part, hpart⟩ : ∃ part, (bk.drop off).take kk = part := ⟨_, rfl⟩
            have srd := HP.out.2.2.2.2.2.1 _ _ _ (HP.out.2.2.2.2.1 _ _ (HP.out.1.below hb3).reads.1)
            rw [hpart] at srd
            have hpl := srd.bytes_len
            have HSRC : Hid (0 < kk → ∃ ad, Ap = some ad ∧ ∀ j v, (bL part)[j]? = some v → w3.cell? (ad.add j) = some v) := by
              intro hpos
              obtain ⟨ad', hA, _, hcl⟩ := srd.2 hpos
              exact ⟨ad', hA, hcl⟩
            have HPL := Lib.hid hpl
            have HB3 := Lib.hid (And.intro hB3 (And.intro hg3 hb3))
            have CR := cut_row g3 512 512 8 .i64 8 rfl (by omega) (by omega)
            clear hpart srd hpl hB3 hg3 hb3
            go_wp2_with (refine wpList_copy_splice rfl _ _ 27 27 rfl 5 Try.underlying27 HI.out (some ⟨g3, 8, none⟩) Ap 504 504 kk c9 rfl rfl g3 8 (bL (headL 4 kk nx)) 5 HB3.out.1 (bL part) (by rw [bL_len, HPL.out]; show kk = min kk 504; omega) (fun hq => ⟨rfl, HSRC.out (by rw [bL_len, HPL.out] at hq; exact hq)⟩) (by rw [bL_len, HPL.out, bL_len]; have := headP_len 4 kk nx 4 (by omega); unfold headL; omega) (bL_one part) wi.heap.size w3 (Below.refl _ _) HB3.out.2.1 ?_; intro w4 hg4 hb4)
            have hHl : (headL 4 kk nx).length = 512 := headP_len 4 kk nx 4 (by omega)
            have hQ : Blk w4 g3 5 (bV (splice (headL 4 kk nx) 8 part)) := by
              have h := hg4.out
              rw [splice_bL] at h
              exact h
            have hQl : (splice (headL 4 kk nx) 8 part).length = 512 := by rw [length_splice _ 8 part (by rw [HPL.out, hHl]; omega)]; exact hHl
            obtain ⟨q, hq⟩ : ∃ q, splice (headL 4 kk nx) 8 part = q := ⟨_, rfl⟩
            rw [hq] at hQ hQl
            have hb34 := HB3.out.2.2.trans hb4
            have dp4 := HP.out.2.2.1.lower hb34
            have lf4 := HP.out.2.2.2.1.trans (Lf.of_below (gb := gb) (gt := gt) hb34)
            have own4 := HP.out.1.below hb34
            have pg4 := own_kept_below HP.out.2.1 hb34
            have rdn := Own.new hQ (by rw [hQl]; decide) (Nat.zero_le _) hQl.symm
            have WR := Lib.hid (writeDP dp4 p HLT.out.2 (by omega) ⟨g3, 0, none⟩ 512 w4.heap.size q rdn.reads.1)
            have H4 := Lib.hid (And.intro lf4 (And.intro own4 pg4))
            clear hg4 hb4 hQ hQl hq hb34 dp4 lf4 own4 pg4 rdn
            go_wp2_with fail
            refine WR.out.mono ?_
            rintro e w5 ⟨rfl, lf5⟩
            have L5 : Lf w4 w5 gb gt := Lf.of_left lf5
            have own5 : Own w5 w.heap.size (.slice A5 N c5) bk := L5.own H4.out.2.1 HL0.out.2.1 HL0.out.2.2
            have pg5 := L5.own H4.out.2.2 HL0.out.2.1 HL0.out.2.2
            have lw5 := H4.out.1.trans L5
            have H5 := Lib.hid (And.intro own5 (And.intro pg5 (And.intro lf5.1 lw5)))
            clear lf5 L5 own5 pg5 lw5 WR
            go_wp2
            exact ⟨⟨i + 1, Aq, m9 - kk, c9 - kk, off + kk, ps9.set p q, T9.set p true, by go_num, by have := HLT.out.1; omega, rfl, by omega, by omega, fun W B' h => by have h2 := HP.out.2.2.2.2.2.2.1 _ _ _ (HP.out.2.2.2.2.1 W B' h); rwa [List.drop_drop] at h2, H5.out.1, H5.out.2.1, H5.out.2.2.1, H5.out.2.2.2⟩, by have := HLT.out.1; simp [intOf]; omega⟩
          · have e2 : (k : Int) ≤ (i : Int) + 1 := by omega
            have PUX : Hid (∀ W, Calls Try.prog 21 #[.agg #[.int .u8 4, .int .u16 (kk : Int), .int .u32 0]] W (RetHead W 4 kk 0)) := PU
            clear PU
            go_wp2_with fail
            refine (PUX.out wi).mono ?_
            rintro e w3 ⟨g3, rfl, hB3, hg3, hb3⟩
            obtain ⟨part, hpart⟩ : ∃ part, (bk.drop off).take kk = part := ⟨_, rfl⟩
            have srd := HP.out.2.2.2.2.2.1 _ _ _ (HP.out.2.2.2.2.1 _ _ (HP.out.1.below hb3).reads.1)
            rw [hpart] at srd
            have hpl := srd.bytes_len
            have HSRC : Hid (0 < kk → ∃ ad, Ap = some ad ∧ ∀ j v, (bL part)[j]? = some v → w3.cell? (ad.add j) = some v) := by
              intro hpos
              obtain ⟨ad', hA, _, hcl⟩ := srd.2 hpos
              exact ⟨ad', hA, hcl⟩
            have HPL := Lib.hid hpl
            have HB3 := Lib.hid (And.intro hB3 (And.intro hg3 hb3))
            have CR := cut_row g3 512 512 8 .i64 8 rfl (by omega) (by omega)
            clear hpart srd hpl hB3 hg3 hb3
            go_wp2_with (refine wpList_copy_splice rfl _ _ 27 27 rfl 5 Try.underlying27 HI.out (some ⟨g3, 8, none⟩) Ap 504 504 kk c9 rfl rfl g3 8 (bL (headL 4 kk 0)) 5 HB3.out.1 (bL part) (by rw [bL_len, HPL.out]; show kk = min kk 504; omega) (fun hq => ⟨rfl, HSRC.out (by rw [bL_len, HPL.out] at hq; exact hq)⟩) (by rw [bL_len, HPL.out, bL_len]; have := headP_len 4 kk 0 4 (by omega); unfold headL; omega) (bL_one part) wi.heap.size w3 (Below.refl _ _) HB3.out.2.1 ?_; intro w4 hg4 hb4)
            have hHl : (headL 4 kk 0).length = 512 := headP_len 4 kk 0 4 (by omega)
            have hQ : Blk w4 g3 5 (bV (splice (headL 4 kk 0) 8 part)) := by
              have h := hg4.out
              rw [splice_bL] at h
              exact h
            have hQl : (splice (headL 4 kk 0) 8 part).length = 512 := by rw [length_splice _ 8 part (by rw [HPL.out, hHl]; omega)]; exact hHl
            obtain ⟨q, hq⟩ : ∃ q, splice (headL 4 kk 0) 8 part = q := ⟨_, rfl⟩
            rw [hq] at hQ hQl
            have hb34 := HB3.out.2.2.trans hb4
            have dp4 := HP.out.2.2.1.lower hb34
            have lf4 := HP.out.2.2.2.1.trans (Lf.of_below (gb := gb) (gt := gt) hb34)
            have own4 := HP.out.1.below hb34
            have pg4 := own_kept_below HP.out.2.1 hb34
            have rdn := Own.new hQ (by rw [hQl]; decide) (Nat.zero_le _) hQl.symm
            have WR := Lib.hid (writeDP dp4 p HLT.out.2 (by omega) ⟨g3, 0, none⟩ 512 w4.heap.size q rdn.reads.1)
            have H4 := Lib.hid (And.intro lf4 (And.intro own4 pg4))
            clear hg4 hb4 hQ hQl hq hb34 dp4 lf4 own4 pg4 rdn
            go_wp2_with fail
            refine WR.out.mono ?_
            rintro e w5 ⟨rfl, lf5⟩
            have L5 : Lf w4 w5 gb gt := Lf.of_left lf5
            have own5 : Own w5 w.heap.size (.slice A5 N c5) bk := L5.own H4.out.2.1 HL0.out.2.1 HL0.out.2.2
            have pg5 := L5.own H4.out.2.2 HL0.out.2.1 HL0.out.2.2
            have lw5 := H4.out.1.trans L5
            have H5 := Lib.hid (And.intro own5 (And.intro pg5 (And.intro lf5.1 lw5)))
            clear lf5 L5 own5 pg5 lw5 WR
            go_wp2
            exact ⟨⟨i + 1, Aq, m9 - kk, c9 - kk, off + kk, ps9.set p q, T9.set p true, by go_num, by have := HLT.out.1; omega, rfl, by omega, by omega, fun W B' h => by have h2 := HP.out.2.2.2.2.2.2.1 _ _ _ (HP.out.2.2.2.2.1 W B' h); rwa [List.drop_drop] at h2, H5.out.1, H5.out.2.1, H5.out.2.2.1, H5.out.2.2.2⟩, by have := HLT.out.1; simp [intOf]; omega⟩
        · obtain rfl : i = k := by omega
          have HF := Lib.hid (And.intro hdp hlf)
          clear hown hpg hdp hlf hrd
          go_wp2
          go_ret
          exact ⟨0, ps9, T9, rfl, HF.out.1, HF.out.2, fun _ _ => rfl⟩
end
end Go.Proofs.Ytjlpfhioacphkaa
