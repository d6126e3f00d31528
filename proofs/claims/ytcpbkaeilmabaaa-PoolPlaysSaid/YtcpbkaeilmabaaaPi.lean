/-
  Pool: the law's disk and example; Reset.
-/
import Derived.Test.YtcpbkaeilmabaaaPh
import Derived.Test.YtcpbkaeilmabaaaEb
import Derived.Test.YtcpbkaeilmabaaaEd
import Derived.Test.YtcpbkaeilmabaaaDj
namespace Go.Proofs.Ytcpbkaeilmabaaa
set_option linter.unusedSimpArgs false
set_option linter.unusedVariables false
open Go.RowKit Go.Maps

def RetBegin (w : World) (n : Nat) (e : Ending) (w' : World) : Prop := ∃ g gb gt ps T, e = .returned (.pointer (some ⟨g, 0, none⟩)) ∧ DP w' g gb gt n ps T ∧ Below w.heap.size w w'
set_option maxRecDepth 100000 in
theorem begin_any (n : Nat) (h1 : 1 ≤ n) (h2 : n ≤ 20) (w : World) : Calls Try.prog 36 #[.int .i64 n] w (RetBegin w n) := by
  have N := Lib.hid (newDP n h1 (by omega) w)
  have hnI : (n : Int) ≤ 20 := by omega
  go_enter Try.func36, Try.ntmps36
  go_wp2_with fail
  refine N.out.mono ?_
  rintro e w1 ⟨g, gb, gt, rfl, dp, k1, k2, k3, hb1⟩
  have H0 := Lib.hid (And.intro dp (And.intro k1 (And.intro k2 (And.intro k3 hb1))))
  clear dp k1 k2 k3 hb1
  go_wp2_with fail
  go_loopw [15] (fun u15 wr => ∃ (i : Nat) (ps : List (List UInt8)) (T : List Bool), u15 = .int .i64 i ∧ i ≤ n ∧ DP wr g gb gt n ps T ∧ Below w.heap.size w wr) (fun u15 _ => n - (intOf u15).toNat)
  case atStart => exact ⟨0, _, _, rfl, by omega, H0.out.1, H0.out.2.2.2.2⟩
  case round =>
    obtain ⟨i, ps, T, rfl, hi, dp, hb⟩ := hrel
    have q0 : (0 : Int) ≤ (i : Int) := by omega
    by_cases hlt : i < n
    · have q1 : (i : Int) < (n : Int) := by omega
      have PUT : Hid (∀ W, Calls Try.prog 29 #[.agg #[.int .u8 ((i : Int) % 5), .int .u16 i, .int .u32 (7 * (i : Int))]] W (RetHead W (UInt8.ofNat (i % 5)) i (7 * i))) := by
        intro W
        have h := dput_any (UInt8.ofNat (i % 5)) i (7 * i) (by omega) (by omega) W
        rw [show (((UInt8.ofNat (i % 5)).toNat : Nat) : Int) = (i : Int) % 5 from by simp; omega, show ((7 * i : Nat) : Int) = 7 * (i : Int) from by omega] at h
        exact h
      have HD := Lib.hid (And.intro dp hb)
      clear dp hb
      go_wp2_with fail
      refine (PUT.out _).mono ?_
      rintro e w2 ⟨g2, rfl, hB2, hg2, hb2⟩
      have dl := HD.out.1.lts
      have dp2 := HD.out.1.below hb2 dl.1 dl.2.1 dl.2.2
      have WR := Lib.hid (writeDP dp2 i hlt (by omega) ⟨g2, 0, none⟩ 512 w2.heap.size _ (reads_bv hB2 (headP_len _ _ _ _ (by omega))))
      have b2 := bto0 HD.out.2 hb2
      clear dp2 hB2 hb2 dl
      go_wp2_with fail
      refine WR.out.mono ?_
      rintro e w3 ⟨rfl, hL⟩
      have b3 := b2.trans (hL.2.1 w.heap.size H0.out.2.2.1 H0.out.2.2.2.1)
      have HE := Lib.hid (And.intro hL.1 b3)
      clear hL b3 b2
      go_wp2
      go_roundw
      case rel => exact ⟨i + 1, _, _, by go_num, by omega, HE.out.1, HE.out.2⟩
      case measure => simp [intOf]; omega
    · obtain rfl : i = n := by omega
      have HE := Lib.hid (And.intro dp hb)
      clear dp hb
      go_wp2
      go_ret
      exact ⟨g, gb, gt, ps, T, rfl, HE.out.1, HE.out.2⟩
def fiveP : List Nat := [1, 2, 1, 3, 2]
def fiveV : Array Value := #[.int .u32 1, .int .u32 2, .int .u32 1, .int .u32 3, .int .u32 2]
theorem five_at (k p : Nat) (h : fiveP[k]? = some p) : fiveV[k]? = some (.int .u32 (p : Nat)) ∧ p < 4 := by
  have hk := lt_of_at h
  unfold fiveP at h hk
  simp only [List.length_cons, List.length_nil] at hk
  have : k = 0 ∨ k = 1 ∨ k = 2 ∨ k = 3 ∨ k = 4 := by omega
  rcases this with rfl | rfl | rfl | rfl | rfl <;> (simp at h; subst h; exact ⟨rfl, by omega⟩)
theorem five_end : fiveP.foldl (stepG 2) ([], 0, 0) = ([3, 2], 4, 1) := by decide +kernel
theorem stepG_small {size : Nat} {s : List Nat × Nat × Nat} {p k : Nat} (h1 : s.2.1 ≤ k) (h2 : s.2.2 ≤ k) : (stepG size s p).2.1 ≤ k + 1 ∧ (stepG size s p).2.2 ≤ k + 1 := by
  unfold stepG
  split <;> (simp only; omega)
theorem fold_small (size : Nat) : ∀ (l : List Nat) (s : List Nat × Nat × Nat) (k : Nat), s.2.1 ≤ k → s.2.2 ≤ k → (l.foldl (stepG size) s).2.1 ≤ k + l.length ∧ (l.foldl (stepG size) s).2.2 ≤ k + l.length
  | [], s, k, h1, h2 => ⟨h1, h2⟩
  | p :: l, s, k, h1, h2 => by
    have h := stepG_small (size := size) (p := p) h1 h2
    have := fold_small size l _ (k + 1) h.1 h.2
    simp only [List.foldl_cons, List.length_cons]
    omega
set_option maxRecDepth 100000 in
set_option maxHeartbeats 1000000 in
theorem pfixed_any (w : World) : Calls Try.prog 35 #[] w (RetB w (.bool true)) := by
  have BG := Lib.hid (begin_any 4 (by omega) (by omega) w)
  rw [show ((4 : Nat) : Int) = 4 from rfl] at BG
  go_enter Try.func35, Try.ntmps35
  go_wp2_with fail
  refine BG.out.mono ?_
  rintro e w1 ⟨g, gb, gt, ps, T, rfl, dp, hb1⟩
  have NW := Lib.hid (pnew_any (size := 2) dp (by omega) (by omega))
  rw [show ((2 : Nat) : Int) = 2 from rfl] at NW
  have hhp := dp.hp
  clear dp
  go_wp2_with fail
  refine NW.out.mono ?_
  rintro e w2 ⟨gp, gm, D, rfl, ps2, hb2, hg1, hg2⟩
  have ps3 := ps2.below (ball (Below.refl w2.heap.size w2) (.cells fiveV 34))
  have hF := Blk.new w2 34 fiveV
  have hb3 := ball (bto0 hb1 hb2) (.cells fiveV 34)
  have H0 := Lib.hid (And.intro ps3 (And.intro hF hb3))
  have hw12 := hb2.size
  have hb1s := hb1.size
  clear ps2 ps3 hF hb3 hb1 hb2
  go_wp2_with fail
  go_loopw [13] (fun u13 wr => ∃ (k : Nat) (K : List Fr) (D : DataW Unit) (rd ht : Nat), u13 = .int .i64 k ∧ k ≤ 5 ∧ PS wr w1.heap.size gp g gb gt 4 ps T gm 2 K D rd ht ∧ (pgs K, rd, ht) = (fiveP.take k).foldl (stepG 2) ([], 0, 0) ∧ Blk wr w2.heap.size 34 fiveV ∧ Below w.heap.size w wr ∧ w1.heap.size ≤ wr.heap.size) (fun u13 _ => 5 - (intOf u13).toNat)
  case atStart => exact ⟨0, [], D, 0, 0, rfl, by omega, H0.out.1, rfl, H0.out.2.1, H0.out.2.2, by simp; omega⟩
  case round =>
    obtain ⟨k, K, D, rd, ht, rfl, hk, hps, hst, hF, hb, hz⟩ := hrel
    have q0 : (0 : Int) ≤ (k : Int) := by omega
    have hw1 : w.heap.size ≤ w1.heap.size := hb1s
    by_cases hlt : k < 5
    · have q1 : (k : Int) < 5 := by omega
      obtain ⟨p, hp⟩ : ∃ p, fiveP[k]? = some p := ⟨_, List.getElem?_eq_getElem (by unfold fiveP; simpa using hlt)⟩
      obtain ⟨hv, hp4⟩ := five_at k p hp
      have cF : wr.cell? ⟨w2.heap.size, k, none⟩ = some (.int .u32 (p : Nat)) := (hF.cell k).trans hv
      obtain ⟨q, hq⟩ : ∃ q, ps[p]? = some q := ⟨_, List.getElem?_eq_getElem (by omega)⟩
      have hsm := fold_small 2 (fiveP.take k) ([], 0, 0) 0 (Nat.le_refl _) (Nat.le_refl _)
      rw [← hst] at hsm
      simp only [List.length_take] at hsm
      have GT := Lib.hid (get_any hps hq (by omega) (by omega) (by omega) (by have := hps.sz; omega) hz)
      have H := Lib.hid (And.intro hps (And.intro hst (And.intro hF (And.intro hb hp))))
      have hpI : (p : Int) ≤ 4 := by omega
      clear hps hst hF hb hp hv hq hsm hp4
      go_wp2_with fail
      refine GT.out.mono ?_
      rintro e w3 ⟨K', D', rd', ht', A, c, rfl, own3, hc3, ps3, hst3, tn, _⟩
      have hF3 := H.out.1.turn_blk tn H.out.2.2.1 (by decide) (by decide)
      have hb3 := tn.below _ _ hw1 H.out.2.2.2.1
      have hz3 := Nat.le_trans hz tn.size
      have HE := Lib.hid (And.intro ps3 (And.intro hst3 (And.intro hF3 (And.intro hb3 hz3))))
      clear own3 hc3 ps3 hst3 tn hF3 hb3 hz3 GT cF
      go_wp2
      go_roundw
      case rel => exact ⟨k + 1, K', D', rd', ht', by go_num, by omega, HE.out.1, by rw [foldl_take_succ _ _ _ _ _ H.out.2.2.2.2, ← H.out.2.1]; exact HE.out.2.1, HE.out.2.2.1, HE.out.2.2.2.1, HE.out.2.2.2.2⟩
      case measure => simp [intOf]; omega
    · obtain rfl : k = 5 := by omega
      rw [show fiveP.take 5 = fiveP from rfl, five_end] at hst
      simp only [Prod.mk.injEq] at hst
      obtain ⟨hpg, rfl, rfl⟩ := hst
      have hK2 : K.length = 2 := by have := congrArg List.length hpg; unfold pgs at this; simpa using this
      have KP := Lib.hid (kept_any hps.rg (by omega))
      have H := Lib.hid (And.intro hps hb)
      clear hps hb hF
      go_wp2_with fail
      refine KP.out.mono ?_
      rintro e w3 ⟨A, c, rfl, own3, hb3⟩
      have ps3 := H.out.1.below hb3
      have RD := Lib.hid (reads_any ps3)
      have HT := Lib.hid (hits_any ps3)
      have hpl : pgL K = [.int .u32 3, .int .u32 2] := by
        have : pgL K = (pgs K).map fun p => .int .u32 (p : Nat) := by unfold pgL pgs; rw [List.map_map]; rfl
        rw [this, hpg]; rfl
      rw [hK2, hpl] at own3
      rw [hK2]
      obtain ⟨ad, u, rfl, _, hu, d0⟩ := (Reads.of_own own3).at_ (k := 0) (by omega)
      injection hu with hu
      subst hu
      obtain ⟨ad', u, e, _, hu, d1⟩ := (Reads.of_own own3).at_ (k := 1) (by omega)
      injection e with e
      subst e
      injection hu with hu
      subst hu
      have e1 : ad.add 1 = ⟨ad.block, ad.off + 1, none⟩ := by unfold Addr.add; simp
      have e0 : ad.add 0 = ad := by unfold Addr.add; simp
      rw [e1] at d1
      rw [e0] at d0
      have HB := Lib.hid (bto0 H.out.2 hb3)
      clear own3 ps3 hb3 e0 e1 hpl hK2 hpg KP
      go_wp2_with fail
      refine RD.out.mono ?_
      rintro e w4 ⟨rfl, rfl⟩
      go_wp2_with fail
      refine HT.out.mono ?_
      rintro e w5 ⟨rfl, rfl⟩
      go_wp2
      go_ret
      exact ⟨rfl, HB.out⟩
end Go.Proofs.Ytcpbkaeilmabaaa
