/-
  Pool: the law PoolSizes.
-/
import Derived.Test.YtcpbkaeilmabaaaPk
namespace Go.Proofs.Ytcpbkaeilmabaaa
set_option linter.unusedSimpArgs false
set_option linter.unusedVariables false
open Go.RowKit Go.Maps

theorem lawSizes_out (pages : Int) (s1 s2 : Int) (A : Option Addr) (m c : Nat) (w : World) (h : pages < 1 ∨ 20 < pages ∨ 300 < m) (hm : m ≤ 9223372036854775807) :
    Calls Try.prog 10 #[.int .i64 pages, .int .u8 s1, .int .u8 s2, .slice A m c] w (RetB w (.bool true)) := by
  have F := Lib.hid pfixed_any
  by_cases h1 : pages < 1
  · have e1 : decide (pages < 1) = true := by simp [h1]
    clear h hm
    go_enter Try.func10, Try.ntmps10
    go_wp2_with (go_at_call 35; refine (F.out _).mono ?_; rintro e w1 ⟨rfl, hb1⟩)
    go_ret
    exact ⟨rfl, hb1⟩
  · have e1 : decide (pages < 1) = false := by simp [h1]
    by_cases h2 : 20 < pages
    · have e2 : decide (20 < pages) = true := by simp [h2]
      clear h hm h1
      go_enter Try.func10, Try.ntmps10
      go_wp2_with (go_at_call 35; refine (F.out _).mono ?_; rintro e w1 ⟨rfl, hb1⟩)
      go_ret
      exact ⟨rfl, hb1⟩
    · have e2 : decide (20 < pages) = false := by simp [h2]
      have h3 : (300 : Int) < (m : Int) := by omega
      have e3 : decide ((300 : Int) < (m : Int)) = true := by simp [h3]
      clear h hm h1 h2
      go_enter Try.func10, Try.ntmps10
      go_wp2_with (go_at_call 35; refine (F.out _).mono ?_; rintro e w1 ⟨rfl, hb1⟩)
      go_ret
      exact ⟨rfl, hb1⟩
set_option maxRecDepth 100000 in
set_option maxHeartbeats 2000000 in
theorem lawSizes_in (n s1 s2 : Nat) (A : Option Addr) (m c : Nat) (l : List Int) (w : World) (h1 : 1 ≤ n) (h2 : n ≤ 20) (hs1 : s1 ≤ 255) (hs2 : s2 ≤ 255) (hm : m ≤ 300) (hr : Reads w w.heap.size 1 A m (l.map (Value.int .u32))) (hw : ∀ x ∈ l, (Lit.int .u32 x).wf = true) :
    Calls Try.prog 10 #[.int .i64 n, .int .u8 s1, .int .u8 s2, .slice A m c] w (RetB w (.bool true)) := by
  have F := Lib.hid pfixed_any
  have BG := Lib.hid (begin_any n h1 h2 w)
  have e1 : decide ((n : Int) < 1) = false := by simp; omega
  have e2 : decide ((20 : Int) < (n : Int)) = false := by simp; omega
  have e3 : decide ((300 : Int) < (m : Int)) = false := by simp; omega
  have hs1I : (s1 : Int) ≤ 255 := by omega
  have hs2I : (s2 : Int) ≤ 255 := by omega
  have HR := Lib.hid (And.intro hr hw)
  clear hr hw
  go_enter Try.func10, Try.ntmps10
  go_wp2_with fail
  refine BG.out.mono ?_
  rintro e w1 ⟨gd, gb, gt, ps, T, rfl, dp, hb1⟩
  have N1 := Lib.hid (pnew_any (size := 1 + s1) dp (by omega) (by omega))
  rw [show ((1 + s1 : Nat) : Int) = 1 + (s1 : Int) from by omega] at N1
  have HD := Lib.hid (And.intro dp hb1)
  clear dp hb1
  go_wp2_with fail
  refine N1.out.mono ?_
  rintro e w2 ⟨gp, gm, D, rfl, pa, hb2, hg1, hg2⟩
  have lts := HD.out.1.lts
  have N2 := Lib.hid (pnew_any (size := 1 + s1 + s2) (HD.out.1.below hb2 lts.1 lts.2.1 lts.2.2) (by omega) (by omega))
  rw [show ((1 + s1 + s2 : Nat) : Int) = 1 + (s1 : Int) + (s2 : Int) from by omega] at N2
  have HA := Lib.hid (And.intro pa hb2)
  have hz2 := hb2.size
  clear pa hb2 lts
  go_wp2_with fail
  refine N2.out.mono ?_
  rintro e w3 ⟨gp', gm', D', rfl, pb, hb3, hg3, hg4⟩
  have pa3 := HA.out.1.below hb3
  have dj : Disj gp gm [] gp' gm' [] := ⟨by have := HA.out.1.rg.pool.lt; omega, by have := HA.out.1.mp.lt; omega, by simp⟩
  have hz3 := hb3.size
  have H0 := Lib.hid (And.intro pa3 (And.intro pb (And.intro dj (bto0 (bto0 HD.out.2 HA.out.2) hb3))))
  have hzw := HD.out.2.size
  clear pa3 pb dj hb3 HA
  go_wp2_with fail
  go_loopw [69] (fun u69 wr => ∃ (k : Nat) (Ka Kb : List Fr) (Da Db : DataW Unit) (ra ha rb hb : Nat), u69 = .int .i64 k ∧ k ≤ m ∧ PS wr w1.heap.size gp gd gb gt n ps T gm (1 + s1) Ka Da ra ha ∧ PS wr w2.heap.size gp' gd gb gt n ps T gm' (1 + s1 + s2) Kb Db rb hb ∧ Disj gp gm Ka gp' gm' Kb ∧
      Hid (pgs Ka <:+ pgs Kb ∧ rb ≤ ra ∧ ra + ha = rb + hb ∧ ra ≤ k ∧ ha ≤ k ∧ hb ≤ k) ∧ Below w.heap.size w wr ∧ w3.heap.size ≤ wr.heap.size) (fun u69 _ => m - (intOf u69).toNat)
  case atStart => exact ⟨0, [], [], _, _, 0, 0, 0, 0, rfl, by omega, H0.out.1, H0.out.2.1, H0.out.2.2.1, ⟨⟨[], rfl⟩, by omega, by omega, by omega, by omega, by omega⟩, H0.out.2.2.2, Nat.le_refl _⟩
  case round =>
    clear H0 N1 N2
    obtain ⟨k, Ka, Kb, Da, Db, ra, ha, rb, hb, rfl, hk, pa, pb, dj, hst, hbl, hz⟩ := hrel
    have q0 : (0 : Int) ≤ (k : Int) := by omega
    by_cases hlt : k < m
    · have q1 : (k : Int) < (m : Int) := by omega
      obtain ⟨ad, u, rfl, _, hu, cl⟩ := (HR.out.1.below hbl).at_ hlt
      rw [List.getElem?_map] at hu
      obtain ⟨x, hx, rfl⟩ := Option.map_eq_some_iff.1 hu
      have hxw := Go.bounds_u32 (HR.out.2 x (List.mem_of_getElem? hx))
      obtain ⟨p, rfl⟩ : ∃ p : Nat, x = p := ⟨x.toNat, by omega⟩
      have hst' := hst.out
      have G1 := Lib.hid (get_u pa p (by omega) h2 (by omega) (by omega) (by omega))
      have H := Lib.hid (And.intro pa (And.intro pb (And.intro dj (And.intro hst' hbl))))
      have HP := Lib.hid hxw
      clear pa pb dj hst hst' hbl hu hx hxw
      go_wp2_with fail
      refine G1.out.mono ?_
      rintro e w4 ⟨Ka', Da', ra', ha', v1, r1, rfl, gv1, pa', hs1', tn1, hk1⟩
      have pb4 := H.out.1.other tn1 H.out.2.1 H.out.2.2.1
      have dj4 := (H.out.2.2.1.get H.out.2.1 hk1)
      have G2 := Lib.hid (get_u pb4 p (by have := HP.out.2; omega) h2 (by have := H.out.2.2.2.1; omega) (by have := H.out.2.2.2.1; omega) (by have := tn1.size; omega))
      have H4 := Lib.hid (And.intro gv1 (And.intro pa' (And.intro hs1' (And.intro tn1 (And.intro pb4 dj4)))))
      clear gv1 pa' hs1' tn1 hk1 pb4 dj4
      go_wp2_with fail
      refine G2.out.mono ?_
      rintro e w5 ⟨Kb', Db', rb', hb', v2, r2, rfl, gv2, pb', hs2', tn2, hk2⟩
      have pa5 := H4.out.2.2.2.2.1.other tn2 H4.out.2.1 H4.out.2.2.2.2.2.symm
      have dj5 := (H4.out.2.2.2.2.2.symm.get H4.out.2.1 hk2).symm
      have hbl5 := tn2.below _ _ (by omega) (H4.out.2.2.2.1.below _ _ (by omega) H.out.2.2.2.2)
      have hz5 := Nat.le_trans H4.out.2.2.2.1.size tn2.size
      have hst5 : pgs Ka' <:+ pgs Kb' ∧ rb' ≤ ra' ∧ ra' + ha' = rb' + hb' ∧ ra' ≤ k + 1 ∧ ha' ≤ k + 1 ∧ hb' ≤ k + 1 := by
        obtain ⟨a1, a2, a3, a4, a5, a6⟩ := H.out.2.2.2.1
        have b1 := stepU_small (n := n) (size := 1 + s1) (s := (pgs Ka, ra, ha)) (p := p) (k := k) a4 a5
        have b2 := stepU_small (n := n) (size := 1 + s1 + s2) (s := (pgs Kb, rb, hb)) (p := p) (k := k) (by simp only; omega) a6
        have e1 := H4.out.2.2.1
        rw [← e1] at b1
        rw [← hs2'] at b2
        by_cases hp : p < n
        · unfold stepU at e1 hs2'
          rw [if_pos hp] at e1 hs2'
          have hl := lru_step (sa := 1 + s1) (sb := 1 + s1 + s2) (ra := ra) (ha := ha) (rb := rb) (hb := hb) (p := p) (by omega) a1 H.out.2.1.nodup (by unfold pgs; rw [List.length_map]; exact H.out.1.sz) (by unfold pgs; rw [List.length_map]; exact H.out.2.1.sz) a2 a3
          rw [← e1, ← hs2'] at hl
          exact ⟨hl.1, hl.2.1, hl.2.2, b1.1, b1.2, b2.2⟩
        · unfold stepU at e1 hs2'
          rw [if_neg hp] at e1 hs2'
          simp only [Prod.mk.injEq] at e1 hs2'
          obtain ⟨c1, rfl, rfl⟩ := e1
          obtain ⟨c2, rfl, rfl⟩ := hs2'
          rw [c1, c2]
          exact ⟨a1, a2, a3, by omega, by omega, by omega⟩
      have R1 := Lib.hid (reads_any pb')
      have R2 := Lib.hid (reads_any pa5)
      have hrI : ((rb' : Nat) : Int) ≤ ((ra' : Nat) : Int) := by have := hst5.2.1; omega
      have hrd : decide (((ra' : Nat) : Int) < ((rb' : Nat) : Int)) = false := by simp; omega
      have hcv : ∃ s, (convert 37 9 v1).run Try.prog w5 = .ok (.string s) w5 ∧ (convert 37 9 v2).run Try.prog w5 = .ok (.string s) w5 ∧ r1 = r2 ∧ ((∃ A' c', v1 = .slice A' 512 c') ∨ v1 = .slice none 0 0) ∧ ((∃ A' c', v2 = .slice A' 512 c') ∨ v2 = .slice none 0 0) := by
        rcases H4.out.1 with ⟨hp, A1, c1, q1, hq1, rfl, rfl, own1, _⟩ | ⟨hp, rfl, rfl⟩
        · rcases gv2 with ⟨_, A2, c2, q2, hq2, rfl, rfl, own2, _⟩ | ⟨hp2, _, _⟩
          · rw [hq1] at hq2
            injection hq2 with hq2
            subst hq2
            exact ⟨str q1, (H4.out.2.2.2.2.1.turn_own tn2 own1).reads.1.cnv, own2.reads.1.cnv, rfl, .inl ⟨_, _, rfl⟩, .inl ⟨_, _, rfl⟩⟩
          · omega
        · rcases gv2 with ⟨hp2, _⟩ | ⟨_, rfl, rfl⟩
          · omega
          · exact ⟨str [], (Reads.none_ (B := 0)).cnv (l := []), (Reads.none_ (B := 0)).cnv (l := []), rfl, .inr rfl, .inr rfl⟩
      obtain ⟨s, cv1, cv2, rfl, hv1, hv2⟩ := hcv
      have HE := Lib.hid (And.intro pa5 (And.intro pb' (And.intro dj5 (And.intro hst5 (And.intro hbl5 hz5)))))
      have hrr : ((r1 : Int) != r1) = false := by simp
      clear pa5 pb' dj5 hst5 hbl5 hz5 gv2 hs2' tn2 hk2 H4
      rcases hv1 with ⟨A5, c5, rfl⟩ | rfl <;> rcases hv2 with ⟨A6, c6, rfl⟩ | rfl
      all_goals
        go_wp2_with fail
        refine R1.out.mono ?_
        rintro e w6 ⟨rfl, rfl⟩
        go_wp2_with fail
        refine R2.out.mono ?_
        rintro e w7 ⟨rfl, rfl⟩
        go_wp2
        go_roundw
        case rel => exact ⟨k + 1, Ka', Kb', Da', Db', ra', ha', rb', hb', by go_num, by omega, HE.out.1, HE.out.2.1, HE.out.2.2.1, HE.out.2.2.2.1, HE.out.2.2.2.2.1, Nat.le_trans hz HE.out.2.2.2.2.2⟩
        case measure => simp [intOf]; omega
    · obtain rfl : k = m := by omega
      have R1 := Lib.hid fun W (hW : Below wr.heap.size wr W) => reads_any (pa.below hW)
      have R2 := Lib.hid fun W (hW : Below wr.heap.size wr W) => hits_any (pa.below hW)
      have R3 := Lib.hid fun W (hW : Below wr.heap.size wr W) => reads_any (pb.below hW)
      have R4 := Lib.hid fun W (hW : Below wr.heap.size wr W) => hits_any (pb.below hW)
      have hst' := hst.out
      have i1 : (ra : Int) ≤ 300 := by omega
      have i2 : (ha : Int) ≤ 300 := by omega
      have i3 : (rb : Int) ≤ 300 := by omega
      have i4 : (hb : Int) ≤ 300 := by omega
      have hs : (ra : Int) + (ha : Int) = (rb : Int) + (hb : Int) := by omega
      have HS := Lib.hid hs
      have HB := Lib.hid hbl
      clear pa pb dj hst hst' hbl hs
      have e9 : ((ra : Int) + (ha : Int) == (rb : Int) + (hb : Int)) = true := by rw [HS.out]; simp
      go_wp2_with fail
      refine (F.out _).mono ?_
      rintro e w4 ⟨rfl, hb4⟩
      go_wp2_with fail
      refine (R1.out _ hb4).mono ?_
      rintro e w5 ⟨rfl, rfl⟩
      go_wp2_with fail
      refine (R2.out _ hb4).mono ?_
      rintro e w6 ⟨rfl, rfl⟩
      go_wp2_with fail
      refine (R3.out _ hb4).mono ?_
      rintro e w7 ⟨rfl, rfl⟩
      go_wp2_with fail
      refine (R4.out _ hb4).mono ?_
      rintro e w8 ⟨rfl, rfl⟩
      go_wp2
      go_ret
      exact ⟨rfl, bto0 HB.out hb4⟩
theorem lawSizes_any (pages s1 s2 : Int) (A : Option Addr) (m c : Nat) (l : List Int) (w : World) (hs1 : 0 ≤ s1 ∧ s1 ≤ 255) (hs2 : 0 ≤ s2 ∧ s2 ≤ 255) (hm : m ≤ maxLen) (hr : Reads w w.heap.size 1 A m (l.map (Value.int .u32))) (hw : ∀ x ∈ l, (Lit.int .u32 x).wf = true) :
    Calls Try.prog 10 #[.int .i64 pages, .int .u8 s1, .int .u8 s2, .slice A m c] w (RetB w (.bool true)) := by
  unfold maxLen at hm
  by_cases h : pages < 1 ∨ 20 < pages ∨ 300 < m
  · exact lawSizes_out pages s1 s2 A m c w h hm
  · obtain ⟨n, rfl⟩ : ∃ n : Nat, pages = n := ⟨pages.toNat, by omega⟩
    obtain ⟨a, rfl⟩ : ∃ a : Nat, s1 = a := ⟨s1.toNat, by omega⟩
    obtain ⟨b, rfl⟩ : ∃ b : Nat, s2 = b := ⟨s2.toNat, by omega⟩
    exact lawSizes_in n a b A m c l w (by omega) (by omega) (by omega) (by omega) (by omega) hr hw
end Go.Proofs.Ytcpbkaeilmabaaa
