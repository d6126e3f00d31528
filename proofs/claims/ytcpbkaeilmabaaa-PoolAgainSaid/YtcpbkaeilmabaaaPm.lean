/-
  Pool: the law PoolAgain.
-/
import Derived.Test.YtcpbkaeilmabaaaPk
namespace Go.Proofs.Ytcpbkaeilmabaaa
set_option linter.unusedSimpArgs false
set_option linter.unusedVariables false
open Go.RowKit Go.Maps

theorem lawAgain_out (pages : Int) (s1 : Int) (A : Option Addr) (m c : Nat) (A2 : Option Addr) (m2 c2 : Nat) (w : World) (h : pages < 1 ∨ 20 < pages ∨ 200 < m ∨ 200 < m2) (hm : m ≤ 9223372036854775807) (hm2 : m2 ≤ 9223372036854775807) :
    Calls Try.prog 12 #[.int .i64 pages, .int .u8 s1, .slice A m c, .slice A2 m2 c2] w (RetB w (.bool true)) := by
  have F := Lib.hid pfixed_any
  by_cases h1 : pages < 1
  · have e1 : decide (pages < 1) = true := by simp [h1]
    clear h hm hm2
    go_enter Try.func12, Try.ntmps12
    go_wp2_with (go_at_call 35; refine (F.out _).mono ?_; rintro e w1 ⟨rfl, hb1⟩)
    go_ret
    exact ⟨rfl, hb1⟩
  · have e1 : decide (pages < 1) = false := by simp [h1]
    by_cases h2 : 20 < pages
    · have e2 : decide (20 < pages) = true := by simp [h2]
      clear h hm h1 hm2
      go_enter Try.func12, Try.ntmps12
      go_wp2_with (go_at_call 35; refine (F.out _).mono ?_; rintro e w1 ⟨rfl, hb1⟩)
      go_ret
      exact ⟨rfl, hb1⟩
    · have e2 : decide (20 < pages) = false := by simp [h2]
      by_cases h3 : 200 < m
      · have h3 : (200 : Int) < (m : Int) := by omega
        have e3 : decide ((200 : Int) < (m : Int)) = true := by simp [h3]
        clear h hm h1 h2 hm2
        go_enter Try.func12, Try.ntmps12
        go_wp2_with (go_at_call 35; refine (F.out _).mono ?_; rintro e w1 ⟨rfl, hb1⟩)
        go_ret
        exact ⟨rfl, hb1⟩
      · have e3 : decide ((200 : Int) < (m : Int)) = false := by simp; omega
        have h4 : (200 : Int) < (m2 : Int) := by omega
        have e4 : decide ((200 : Int) < (m2 : Int)) = true := by simp [h4]
        clear h hm h1 h2 hm2 h3
        go_enter Try.func12, Try.ntmps12
        go_wp2_with (go_at_call 35; refine (F.out _).mono ?_; rintro e w1 ⟨rfl, hb1⟩)
        go_ret
        exact ⟨rfl, hb1⟩
theorem pgL_pgs (K : List Fr) : pgL K = (pgs K).map fun p => .int .u32 (p : Nat) := by unfold pgL pgs; rw [List.map_map]; rfl
set_option maxRecDepth 100000 in
set_option maxHeartbeats 2000000 in
theorem lawAgain_in (n s1 : Nat) (A : Option Addr) (m c : Nat) (l : List Int) (A2 : Option Addr) (m2 c2 : Nat) (l2 : List Int) (w : World) (h1 : 1 ≤ n) (h2 : n ≤ 20) (hs1 : s1 ≤ 255) (hm : m ≤ 200) (hm2 : m2 ≤ 200) (hr : Reads w w.heap.size 1 A m (l.map (Value.int .u32))) (hw : ∀ x ∈ l, (Lit.int .u32 x).wf = true) (hr2 : Reads w w.heap.size 1 A2 m2 (l2.map (Value.int .u32))) (hw2 : ∀ x ∈ l2, (Lit.int .u32 x).wf = true) :
    Calls Try.prog 12 #[.int .i64 n, .int .u8 s1, .slice A m c, .slice A2 m2 c2] w (RetB w (.bool true)) := by
  have F := Lib.hid pfixed_any
  have BG := Lib.hid (begin_any n h1 h2 w)
  have e1 : decide ((n : Int) < 1) = false := by simp; omega
  have e2 : decide ((20 : Int) < (n : Int)) = false := by simp; omega
  have e3 : decide ((200 : Int) < (m : Int)) = false := by simp; omega
  have e4 : decide ((200 : Int) < (m2 : Int)) = false := by simp; omega
  have hs1I : (s1 : Int) ≤ 255 := by omega
  have HR := Lib.hid (And.intro hr hw)
  have HR2 := Lib.hid (And.intro hr2 hw2)
  clear hr hw hr2 hw2
  go_enter Try.func12, Try.ntmps12
  go_wp2_with fail
  refine BG.out.mono ?_
  rintro e w1 ⟨gd, gb, gt, ps, T, rfl, dp, hb1⟩
  have N1 := Lib.hid (pnew_any (size := 1 + s1) dp (by omega) (by omega))
  rw [show ((1 + s1 : Nat) : Int) = 1 + (s1 : Int) from by omega] at N1
  have HD := Lib.hid (And.intro dp hb1)
  clear dp hb1
  go_wp2_with fail
  refine N1.out.mono ?_
  rintro e w2 ⟨gp, gm, D, rfl, pa, hb2, hg1, hg2⟩
  have lts := HD.out.1.lts
  have N2 := Lib.hid (pnew_any (size := 1 + s1) (HD.out.1.below hb2 lts.1 lts.2.1 lts.2.2) (by omega) (by omega))
  rw [show ((1 + s1 : Nat) : Int) = 1 + (s1 : Int) from by omega] at N2
  have HA := Lib.hid (And.intro pa hb2)
  have hz2 := hb2.size
  clear pa hb2 lts
  go_wp2_with fail
  refine N2.out.mono ?_
  rintro e w3 ⟨gp', gm', D', rfl, pb, hb3, hg3, hg4⟩
  have pa3 := HA.out.1.below hb3
  have dj : Disj gp gm [] gp' gm' [] := ⟨by have := HA.out.1.rg.pool.lt; omega, by have := HA.out.1.mp.lt; omega, by simp⟩
  have hz3 := hb3.size
  have H0 := Lib.hid (And.intro pa3 (And.intro pb (And.intro dj (bto0 (bto0 HD.out.2 HA.out.2) hb3))))
  have hzw := HD.out.2.size
  clear pa3 pb dj hb3 HA
  go_wp2_with fail
  go_loopw [76] (fun u76 wr => ∃ (k : Nat) (Ka : List Fr) (Da : DataW Unit) (ra ha : Nat), u76 = .int .i64 k ∧ k ≤ m ∧ PS wr w1.heap.size gp gd gb gt n ps T gm (1 + s1) Ka Da ra ha ∧ PS wr w2.heap.size gp' gd gb gt n ps T gm' (1 + s1) [] D' 0 0 ∧ Disj gp gm Ka gp' gm' [] ∧
      Hid (ra ≤ k ∧ ha ≤ k) ∧ Below w.heap.size w wr ∧ w3.heap.size ≤ wr.heap.size) (fun u76 _ => m - (intOf u76).toNat)
  case atStart => exact ⟨0, [], _, 0, 0, rfl, by omega, H0.out.1, H0.out.2.1, H0.out.2.2.1, ⟨by omega, by omega⟩, H0.out.2.2.2, Nat.le_refl _⟩
  case round =>
    clear H0 N1 N2
    obtain ⟨k, Ka, Da, ra, ha, rfl, hk, pa, pb, dj, hst, hbl, hz⟩ := hrel
    have q0 : (0 : Int) ≤ (k : Int) := by omega
    by_cases hlt : k < m
    · have q1 : (k : Int) < (m : Int) := by omega
      obtain ⟨ad, u, rfl, _, hu, cl⟩ := (HR.out.1.below hbl).at_ hlt
      rw [List.getElem?_map] at hu
      obtain ⟨x, hx, rfl⟩ := Option.map_eq_some_iff.1 hu
      have hxw := Go.bounds_u32 (HR.out.2 x (List.mem_of_getElem? hx))
      obtain ⟨p, rfl⟩ : ∃ p : Nat, x = p := ⟨x.toNat, by omega⟩
      have hst' := hst.out
      have G1 := Lib.hid (get_u pa p (by omega) h2 (by omega) (by omega) (by omega))
      have H := Lib.hid (And.intro pa (And.intro pb (And.intro dj (And.intro hst' hbl))))
      clear pa pb dj hst hst' hbl hu hx hxw
      go_wp2_with fail
      refine G1.out.mono ?_
      rintro e w4 ⟨Ka', Da', ra', ha', v1, r1, rfl, gv1, pa', hs1', tn1, hk1⟩
      have pb4 := H.out.1.other tn1 H.out.2.1 H.out.2.2.1
      have dj4 := (H.out.2.2.1.get H.out.2.1 hk1)
      have b1 := stepU_small (n := n) (size := 1 + s1) (s := (pgs Ka, ra, ha)) (p := p) (k := k) H.out.2.2.2.1.1 H.out.2.2.2.1.2
      rw [← hs1'] at b1
      have hbl5 := tn1.below _ _ (by omega) H.out.2.2.2.2
      have hz5 := Nat.le_trans hz tn1.size
      have HE := Lib.hid (And.intro pa' (And.intro pb4 (And.intro dj4 (And.intro b1 (And.intro hbl5 hz5)))))
      clear gv1 pa' hs1' tn1 hk1 pb4 dj4 b1 hbl5 hz5
      go_wp2
      go_roundw
      case rel => exact ⟨k + 1, Ka', Da', ra', ha', by go_num, by omega, HE.out.1, HE.out.2.1, HE.out.2.2.1, HE.out.2.2.2.1, HE.out.2.2.2.2.1, HE.out.2.2.2.2.2⟩
      case measure => simp [intOf]; omega
    · obtain rfl : k = m := by omega
      have RS := Lib.hid (reset_any pa)
      have H := Lib.hid (And.intro pa (And.intro pb (And.intro dj (And.intro hbl hz))))
      clear pa pb dj hst hbl
      go_wp2_with fail
      refine RS.out.mono ?_
      rintro e w4 ⟨rfl, pa4, tn4⟩
      have pb4 := H.out.1.other tn4 H.out.2.1 H.out.2.2.1
      have dj4 : Disj gp gm [] gp' gm' [] := ⟨H.out.2.2.1.p, H.out.2.2.1.m, by simp⟩
      have bl4 := tn4.below _ _ (by omega) H.out.2.2.2.1
      have hz4 := Nat.le_trans hz tn4.size
      have H0 := Lib.hid (And.intro pa4 (And.intro pb4 (And.intro dj4 bl4)))
      clear pa4 tn4 pb4 dj4 bl4 H RS
      go_wp2_with fail
      go_loopw [88] (fun u88 wr => ∃ (k : Nat) (Ka Kb : List Fr) (Da Db : DataW Unit) (ra ha : Nat), u88 = .int .i64 k ∧ k ≤ m2 ∧ PS wr w1.heap.size gp gd gb gt n ps T gm (1 + s1) Ka Da ra ha ∧ PS wr w2.heap.size gp' gd gb gt n ps T gm' (1 + s1) Kb Db ra ha ∧ Disj gp gm Ka gp' gm' Kb ∧
          Hid (pgs Ka = pgs Kb ∧ ra ≤ k ∧ ha ≤ k) ∧ Below w.heap.size w wr ∧ w3.heap.size ≤ wr.heap.size) (fun u88 _ => m2 - (intOf u88).toNat)
      case atStart => exact ⟨0, [], [], _, _, 0, 0, rfl, by omega, H0.out.1, H0.out.2.1, H0.out.2.2.1, ⟨rfl, by omega, by omega⟩, H0.out.2.2.2, hz4⟩
      case round =>
        clear H0 hz4 q0 hk hlt hz
        obtain ⟨k, Ka, Kb, Da, Db, ra, ha, rfl, hk, pa, pb, dj, hst, hbl, hz⟩ := hrel
        have q0 : (0 : Int) ≤ (k : Int) := by omega
        by_cases hlt : k < m2
        · have q1 : (k : Int) < (m2 : Int) := by omega
          obtain ⟨ad, u, rfl, _, hu, cl⟩ := (HR2.out.1.below hbl).at_ hlt
          rw [List.getElem?_map] at hu
          obtain ⟨x, hx, rfl⟩ := Option.map_eq_some_iff.1 hu
          have hxw := Go.bounds_u32 (HR2.out.2 x (List.mem_of_getElem? hx))
          obtain ⟨p, rfl⟩ : ∃ p : Nat, x = p := ⟨x.toNat, by omega⟩
          have hst' := hst.out
          have G1 := Lib.hid (get_u pa p (by omega) h2 (by omega) (by omega) (by omega))
          have H := Lib.hid (And.intro pa (And.intro pb (And.intro dj (And.intro hst' hbl))))
          have HP := Lib.hid hxw
          clear pa pb dj hst hst' hbl hu hx hxw
          go_wp2_with fail
          refine G1.out.mono ?_
          rintro e w4 ⟨Ka', Da', ra', ha', v1, r1, rfl, gv1, pa', hs1', tn1, hk1⟩
          have pb4 := H.out.1.other tn1 H.out.2.1 H.out.2.2.1
          have dj4 := (H.out.2.2.1.get H.out.2.1 hk1)
          have G2 := Lib.hid (get_u pb4 p (by have := HP.out.2; omega) h2 (by have := H.out.2.2.2.1; omega) (by have := H.out.2.2.2.1; omega) (by have := tn1.size; omega))
          have H4 := Lib.hid (And.intro gv1 (And.intro pa' (And.intro hs1' (And.intro tn1 (And.intro pb4 dj4)))))
          clear gv1 pa' hs1' tn1 hk1 pb4 dj4
          go_wp2_with fail
          refine G2.out.mono ?_
          rintro e w5 ⟨Kb', Db', rb', hb', v2, r2, rfl, gv2, pb', hs2', tn2, hk2⟩
          have pa5 := H4.out.2.2.2.2.1.other tn2 H4.out.2.1 H4.out.2.2.2.2.2.symm
          have dj5 := (H4.out.2.2.2.2.2.symm.get H4.out.2.1 hk2).symm
          have hbl5 := tn2.below _ _ (by omega) (H4.out.2.2.2.1.below _ _ (by omega) H.out.2.2.2.2)
          have hz5 := Nat.le_trans H4.out.2.2.2.1.size tn2.size
          have hcv : ∃ s, (convert 37 9 v1).run Try.prog w5 = .ok (.string s) w5 ∧ (convert 37 9 v2).run Try.prog w5 = .ok (.string s) w5 ∧ r1 = r2 := by
            rcases H4.out.1 with ⟨hp, A1, c1, q1, hq1, rfl, rfl, own1, _⟩ | ⟨hp, rfl, rfl⟩
            · rcases gv2 with ⟨_, A2, c2, q2, hq2, rfl, rfl, own2, _⟩ | ⟨hp2, _, _⟩
              · rw [hq1] at hq2
                injection hq2 with hq2
                subst hq2
                exact ⟨str q1, (H4.out.2.2.2.2.1.turn_own tn2 own1).reads.1.cnv, own2.reads.1.cnv, rfl⟩
              · omega
            · rcases gv2 with ⟨hp2, _⟩ | ⟨_, rfl, rfl⟩
              · omega
              · exact ⟨str [], (Reads.none_ (B := 0)).cnv (l := []), (Reads.none_ (B := 0)).cnv (l := []), rfl⟩
          have hv : ∀ v r, GetV ps n p w5 w4.heap.size v r ∨ GetV ps n p w4 wr.heap.size v r → (∃ A' c', v = .slice A' 512 c') ∨ v = .slice none 0 0 := by
            rintro v r ((⟨_, A1, c1, _, _, rfl, _⟩ | ⟨_, rfl, _⟩) | (⟨_, A1, c1, _, _, rfl, _⟩ | ⟨_, rfl, _⟩))
            · exact .inl ⟨_, _, rfl⟩
            · exact .inr rfl
            · exact .inl ⟨_, _, rfl⟩
            · exact .inr rfl
          have hv1 := hv _ _ (.inr H4.out.1)
          have hv2 := hv _ _ (.inl gv2)
          obtain ⟨s, cv1, cv2, rfl⟩ := hcv
          have hst5 : pgs Ka' = pgs Kb' ∧ ra' = rb' ∧ ha' = hb' ∧ ra' ≤ k + 1 ∧ ha' ≤ k + 1 := by
            obtain ⟨a1, a4, a5⟩ := H.out.2.2.2.1
            have b1 := stepU_small (n := n) (size := 1 + s1) (s := (pgs Ka, ra, ha)) (p := p) (k := k) a4 a5
            have e1 := H4.out.2.2.1
            rw [← e1] at b1
            rw [a1, ← hs2'] at e1
            simp only [Prod.mk.injEq] at e1
            exact ⟨e1.1, e1.2.1, e1.2.2, b1.1, b1.2⟩
          obtain ⟨t1, rfl, rfl, t2, t3⟩ := hst5
          have HE := Lib.hid (And.intro pa5 (And.intro pb' (And.intro dj5 (And.intro t1 (And.intro t2 (And.intro t3 (And.intro hbl5 hz5)))))))
          have hrr : ((r1 : Int) != r1) = false := by simp
          clear pa5 pb' dj5 t1 t2 t3 hbl5 hz5 gv2 hs2' tn2 hk2 H4 hv
          rcases hv1 with ⟨A5, c5, rfl⟩ | rfl <;> rcases hv2 with ⟨A6, c6, rfl⟩ | rfl
          all_goals
            go_wp2
            go_roundw
            case rel => exact ⟨k + 1, Ka', Kb', Da', Db', ra', ha', by go_num, by omega, HE.out.1, HE.out.2.1, HE.out.2.2.1, ⟨HE.out.2.2.2.1, HE.out.2.2.2.2.1, HE.out.2.2.2.2.2.1⟩, HE.out.2.2.2.2.2.2.1, Nat.le_trans hz HE.out.2.2.2.2.2.2.2⟩
            case measure => simp [intOf]; omega
        · obtain rfl : k = m2 := by omega
          have hst' := hst.out
          have KA := Lib.hid (kept_any pa.rg (by have := pa.sz; omega))
          have KB := Lib.hid fun W (hW : Below wr.heap.size wr W) => (kept_any (pb.below hW).rg (by have := pb.sz; omega))
          have R1 := Lib.hid fun W (hW : Below wr.heap.size wr W) => reads_any (pa.below hW)
          have R2 := Lib.hid fun W (hW : Below wr.heap.size wr W) => hits_any (pa.below hW)
          have R3 := Lib.hid fun W (hW : Below wr.heap.size wr W) => reads_any (pb.below hW)
          have R4 := Lib.hid fun W (hW : Below wr.heap.size wr W) => hits_any (pb.below hW)
          have hKK : Kb.length = Ka.length := by have := congrArg List.length hst'.1; unfold pgs at this; simpa using this.symm
          have hKs : Ka.length ≤ 256 := by have := pa.sz; omega
          have hpl : pgL Kb = pgL Ka := by rw [pgL_pgs, pgL_pgs, hst'.1]
          have HB := Lib.hid hbl
          clear pa pb dj hst hst' hbl
          go_wp2_with fail
          refine KA.out.mono ?_
          rintro e w4 ⟨A4, c4, rfl, own4, hb4⟩
          go_wp2_with fail
          refine (KB.out _ hb4).mono ?_
          rintro e w5 ⟨A5, c5, rfl, own5, hb5⟩
          have rr4 := (Reads.of_own own4).below hb5
          have rr5 := Reads.of_own own5
          have hb45 := bto0 hb4 hb5
          have hz45 := hb5.size
          rw [hKK, hpl] at rr5
          rw [hKK]
          obtain ⟨N, hN⟩ : ∃ N, Ka.length = N := ⟨_, rfl⟩
          rw [hN] at rr4 rr5 hKs ⊢
          have hpN : (pgL Ka).length = N := by unfold pgL; rw [List.length_map, hN]
          have HQ := Lib.hid (And.intro rr4 (And.intro rr5 (And.intro hpN hb45)))
          clear own4 own5 hb4 hb5 rr4 rr5 hpN hb45 KA KB hpl hKK hN
          go_wp2_with fail
          refine (R1.out _ HQ.out.2.2.2).mono ?_
          rintro e w6 ⟨rfl, rfl⟩
          go_wp2_with fail
          refine (R3.out _ HQ.out.2.2.2).mono ?_
          rintro e w7 ⟨rfl, rfl⟩
          go_wp2_with fail
          refine (R2.out _ HQ.out.2.2.2).mono ?_
          rintro e w8 ⟨rfl, rfl⟩
          go_wp2_with fail
          refine (R4.out _ HQ.out.2.2.2).mono ?_
          rintro e w9 ⟨rfl, rfl⟩
          go_wp2_with fail
          go_loopw [140] (fun u140 wr => ∃ (k : Nat), u140 = .int .i64 k ∧ k ≤ N ∧ Below w5.heap.size w5 wr) (fun u140 _ => N - (intOf u140).toNat)
          case atStart => exact ⟨0, rfl, by omega, Below.refl _ _⟩
          case round =>
            clear q0 hk hlt
            obtain ⟨k, rfl, hk, hbw⟩ := hrel
            have q0 : (0 : Int) ≤ (k : Int) := by omega
            by_cases hlt : k < N
            · have q1 : (k : Int) < (N : Int) := by omega
              obtain ⟨ad4, u, rfl, _, hu, cl4⟩ := (HQ.out.1.below (hbw.mono hz45)).at_ hlt
              obtain ⟨ad5, u5, rfl, _, hu5, cl5⟩ := (HQ.out.2.1.below hbw).at_ hlt
              rw [hu] at hu5
              injection hu5 with hu5
              subst hu5
              obtain ⟨p, rfl⟩ : ∃ p : Nat, u = .int .u32 p := by
                rw [pgL_pgs, List.getElem?_map] at hu
                obtain ⟨x, hx, rfl⟩ := Option.map_eq_some_iff.1 hu
                exact ⟨x, rfl⟩
              have HB2 := Lib.hid hbw
              have hpp : ((p : Int) != (p : Int)) = false := by simp
              clear hu hbw
              go_wp2_with fail
              go_quiet (fail)
              go_wp2
              go_roundw
              case rel => exact ⟨k + 1, by go_num, by omega, bdr HB2.out nq⟩
              case measure => simp [intOf]; omega
            · obtain rfl : k = N := by omega
              have HB2 := Lib.hid (bto0 (bto0 HB.out HQ.out.2.2.2) hbw)
              clear hbw
              go_wp2_with fail
              refine (F.out _).mono ?_
              rintro e w6 ⟨rfl, hb6⟩
              go_wp2
              go_ret
              exact ⟨rfl, bto0 HB2.out hb6⟩
theorem lawAgain_any (pages s1 : Int) (A : Option Addr) (m c : Nat) (l : List Int) (A2 : Option Addr) (m2 c2 : Nat) (l2 : List Int) (w : World) (hs1 : 0 ≤ s1 ∧ s1 ≤ 255) (hm : m ≤ maxLen) (hr : Reads w w.heap.size 1 A m (l.map (Value.int .u32))) (hw : ∀ x ∈ l, (Lit.int .u32 x).wf = true) (hm2 : m2 ≤ maxLen) (hr2 : Reads w w.heap.size 1 A2 m2 (l2.map (Value.int .u32))) (hw2 : ∀ x ∈ l2, (Lit.int .u32 x).wf = true) :
    Calls Try.prog 12 #[.int .i64 pages, .int .u8 s1, .slice A m c, .slice A2 m2 c2] w (RetB w (.bool true)) := by
  unfold maxLen at hm hm2
  by_cases h : pages < 1 ∨ 20 < pages ∨ 200 < m ∨ 200 < m2
  · exact lawAgain_out pages s1 A m c A2 m2 c2 w h hm hm2
  · obtain ⟨n, rfl⟩ : ∃ n : Nat, pages = n := ⟨pages.toNat, by omega⟩
    obtain ⟨a, rfl⟩ : ∃ a : Nat, s1 = a := ⟨s1.toNat, by omega⟩
    exact lawAgain_in n a A m c l A2 m2 c2 l2 w (by omega) (by omega) (by omega) (by omega) (by omega) hr hw hr2 hw2
end Go.Proofs.Ytcpbkaeilmabaaa
