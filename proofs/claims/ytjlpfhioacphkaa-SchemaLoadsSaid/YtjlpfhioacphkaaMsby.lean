/-
  Several texts in one: L8.
-/
import Derived.Test.YtjlpfhioacphkaaMsbx
import Derived.Test.YtjlpfhioacphkaaMsbw
import Derived.Test.YtjlpfhioacphkaaMsbe
import Derived.Test.YtjlpfhioacphkaaMsat
import Derived.Test.YtjlpfhioacphkaaMsay
import Derived.Test.YtjlpfhioacphkaaMsaz
import Derived.Test.YtjlpfhioacphkaaMsbl
import Derived.Test.YtjlpfhioacphkaaMsbs
import Derived.Laws.BitsAllLaws
import Derived.BigQuiet
/-
  SchemaLoads: the walk.
-/
namespace Go.Proofs.Ytjlpfhioacphkaa
section
set_option linter.unusedSimpArgs false
set_option linter.unusedVariables false
open Go.RowKit Go.Maps

theorem xor_u8 (x : UInt8) (y : Int) (h0 : 0 ≤ y) (h1 : y ≤ 255) : ∃ z : UInt8, bits .xor .u8 (x.toNat : Int) y = (z.toNat : Int) := by
  obtain ⟨m, rfl⟩ : ∃ m : Nat, y = (m : Int) := ⟨y.toNat, by omega⟩
  have hx := x.toNat_lt
  have hz : x.toNat ^^^ m < 256 := Nat.xor_lt_two_pow (n := 8) hx (by omega)
  exact ⟨UInt8.ofNat (x.toNat ^^^ m), by rw [u8_xor_nat _ _ hx (by omega), UInt8.toNat_ofNat', Nat.mod_eq_of_lt hz]⟩
theorem cell_lt15 {w : World} {p : Addr} {v : Value} (h : w.cell? p = some v) : p.block < w.heap.size := by
  rcases Nat.lt_or_ge p.block w.heap.size with h1 | h1
  · exact h1
  · unfold World.cell? at h
    rw [Array.getElem?_eq_none h1] at h
    cases h
set_option maxRecDepth 100000 in
set_option maxHeartbeats 16000000 in
theorem schemaLoads_any (A : Option Addr) (n c : Nat) (l : List Tb) (B : Option Addr) (m d : Nat) (r : List Ix) (A1 : Option Addr) (n1 c1 : Nat) (l1 : List Int) (A2 : Option Addr) (n2 c2 : Nat) (l2 : List Int) (w : World)
    (hk : BkIn w A n c l B m d r) (hn : n ≤ 2199023255552) (hr1 : Reads w w.heap.size 1 A1 n1 (l1.map (Value.int .u16))) (hr2 : Reads w w.heap.size 1 A2 n2 (l2.map (Value.int .u8))) (hw1 : ∀ x ∈ l1, 0 ≤ x ∧ x ≤ 65535) (hw2 : ∀ x ∈ l2, 0 ≤ x ∧ x ≤ 255) :
    Calls Try.prog 3 #[.agg #[.slice A n c, .slice B m d], .slice A1 n1 c1, .slice A2 n2 c2] w (RetB w (.bool true)) := by
  have FX := Lib.hid fun W => fixed12_any W
  have GA := Lib.hid fun W (hW : Below w.heap.size w W) => gr_any A n c l B m d r W (hk.below hW) hn
  have HK := Lib.hid (And.intro hk (And.intro hr1 (And.intro hr2 (And.intro hw1 hw2))))
  have HB0 : Hid (Below w.heap.size w (w.alloc (.cells #[.slice A n c, .slice B m d] 25)) ∧ Blk (w.alloc (.cells #[.slice A n c, .slice B m d] 25)) w.heap.size 25 #[.slice A n c, .slice B m d]) := Lib.hid ⟨ball (Below.refl _ _) _, Blk.newAt12 (by simp)⟩
  clear hk hn hr1 hr2 hw1 hw2
  go_enter Try.func3, Try.ntmps3
  have hc : (n1 ≠ n2 ∨ 20 < n1) ∨ (n1 = n2 ∧ n1 ≤ 20) := by omega
  rcases hc with hc | ⟨rfl, hc⟩
  · by_cases h3 : n1 = n2
    · have h4 : 20 < n1 := by omega
      have e1 : ((n1 : Int) != (n2 : Int)) = false := by simp; omega
      have e2 : (20 : Int) < (n1 : Int) := by omega
      clear hc h3 h4
      go_wp2_with fail
      refine (GA.out _ HB0.out.1).mono ?_
      rintro e w1 ⟨b, rfl, hb1, _⟩
      have HB1 : Hid (Below w.heap.size w w1) := Lib.hid (bto0 HB0.out.1 hb1)
      clear hb1
      cases b
      all_goals
        go_wp2_with fail
        refine (FX.out _).mono ?_
        rintro e wf ⟨rfl, hbf⟩
        go_wp2
        go_ret
        exact ⟨rfl, bto0 HB1.out hbf⟩
    · have e1 : ((n1 : Int) != (n2 : Int)) = true := by simp; omega
      clear hc h3
      go_wp2_with fail
      refine (GA.out _ HB0.out.1).mono ?_
      rintro e w1 ⟨b, rfl, hb1, _⟩
      have HB1 : Hid (Below w.heap.size w w1) := Lib.hid (bto0 HB0.out.1 hb1)
      clear hb1
      cases b
      all_goals
        go_wp2_with fail
        refine (FX.out _).mono ?_
        rintro e wf ⟨rfl, hbf⟩
        go_wp2
        go_ret
        exact ⟨rfl, bto0 HB1.out hbf⟩
  have e1 : ((n1 : Int) != (n1 : Int)) = false := by simp
  have e2 : (n1 : Int) ≤ 20 := by omega
  go_wp2_with fail
  refine (GA.out _ HB0.out.1).mono ?_
  rintro e w1 ⟨b, rfl, hb1, _⟩
  have P := HB0.out.2.below hb1 HB0.out.2.lt
  have P_0 : (w1).cell? ⟨w.heap.size, 0, none⟩ = some (.slice A n c) := P.cell 0
  have P_1 : (w1).cell? ⟨w.heap.size, 1, none⟩ = some (.slice B m d) := P.cell 1
  have HB1 : Hid (Below w.heap.size w w1 ∧ Blk w1 w.heap.size 25 #[.slice A n c, .slice B m d]) := Lib.hid ⟨bto0 HB0.out.1 hb1, P⟩
  clear hb1 P
  cases b
  case true =>
    go_wp2_with fail
    refine (FX.out _).mono ?_
    rintro e wf ⟨rfl, hbf⟩
    go_wp2
    go_ret
    exact ⟨rfl, bto0 HB1.out.1 hbf⟩
  have ND : Hid (∀ W, Calls Try.prog 6 #[.int .i64 8] W (RetDP W 8 (pagesOf (zb 8) 8) (marksOf (zb 8) 8))) := Lib.hid fun W => newDP 8 (by omega) (by omega) W
  go_wp2_with fail
  refine (ND.out _).mono ?_
  rintro e w2 ⟨g, gb, gt, rfl, hd2, hg1, hg2, hg3, hb2⟩
  have P2 := HB1.out.2.below hb2 HB1.out.2.lt
  have P2_0 : (w2).cell? ⟨w.heap.size, 0, none⟩ = some (.slice A n c) := P2.cell 0
  have P2_1 : (w2).cell? ⟨w.heap.size, 1, none⟩ = some (.slice B m d) := P2.cell 1
  have b02 := bto0 HB1.out.1 hb2
  have hz1 := HB1.out.2.lt
  have ST := Lib.hid (store12_any hd2 (by omega) (by omega) A n c l B m d r (HK.out.1.below b02))
  have HB2 := Lib.hid (And.intro b02 (And.intro (by omega : w.heap.size ≤ gb) (by omega : w.heap.size ≤ gt)))
  clear hd2 hg1 hg2 hg3 hb2 P2 b02 hz1 ND
  go_wp2_with fail
  refine ST.out.mono ?_
  rintro e w3 ⟨E3, ps3, T3, rfl, hd3, lf3, _⟩
  have b03 := HB2.out.1.trans (lf3.below w.heap.size HB2.out.2.1 HB2.out.2.2 HB2.out.1.size)
  have IM : Hid (Calls Try.prog 8 #[.pointer (some ⟨g, 0, none⟩)] w3 fun e w' => e = .returned (.slice (some ⟨w3.heap.size, 0, none⟩) 4096 4096) ∧ Blk w' w3.heap.size 5 (bV ps3.flatten) ∧ Below w3.heap.size w3 w') := Lib.hid (image_any hd3.dk (by omega) (by omega) (fun v hv => bL_one _ v (by rwa [bV_toList] at hv)))
  have hfl : ps3.flatten.length = 4096 := by rw [pflat_len _ hd3.full, hd3.hp]
  obtain ⟨L0, hL0⟩ : ∃ L0, ps3.flatten = L0 := ⟨_, rfl⟩
  rw [hL0] at IM hfl
  have HB3 := Lib.hid (And.intro b03 hfl)
  clear hd3 lf3 b03 hfl hL0 ST
  go_wp2_with fail
  refine IM.out.mono ?_
  rintro e w4 ⟨rfl, hB4, hb4⟩
  obtain ⟨gI, hgI⟩ : ∃ gI, w3.heap.size = gI := ⟨_, rfl⟩
  have hb04 := bto0 HB3.out.1 hb4
  have hgw : w.heap.size ≤ gI := by rw [← hgI]; exact HB3.out.1.size
  rw [hgI] at hB4 hb4 ⊢
  have H4 := Lib.hid (And.intro hB4 hb04)
  clear hB4 hb4 hb04 hgI IM
  go_wp2_with fail
  go_loopw [58] (fun u58 wr => ∃ (i : Nat) (L : List UInt8), u58 = .int .i64 i ∧ i ≤ n1 ∧ L.length = 4096 ∧ Blk wr gI 5 (bV L) ∧ Below w.heap.size w wr) (fun u58 _ => n1 - (intOf u58).toNat)
  case atStart => exact ⟨0, L0, rfl, by omega, HB3.out.2, H4.out.1, H4.out.2⟩
  case round =>
    obtain ⟨wo, rfl⟩ : ∃ wo : World, wo = wr := ⟨_, rfl⟩
    obtain ⟨i, L, rfl, hi, hL, hblk, hb⟩ := hrel
    have i0 : (0 : Int) ≤ (i : Int) := by omega
    by_cases hlt : i < n1
    · have i1 : (i : Int) < (n1 : Int) := by omega
      obtain ⟨ad1, u1, hA1, had1, hu1, hc1⟩ := (HK.out.2.1.below hb).at_ hlt
      rw [List.getElem?_map] at hu1
      obtain ⟨x, hx, rfl⟩ := Option.map_eq_some_iff.1 hu1
      obtain ⟨ad2, u2, hA2, had2, hu2, hc2⟩ := (HK.out.2.2.1.below hb).at_ hlt
      rw [List.getElem?_map] at hu2
      obtain ⟨y, hy, rfl⟩ := Option.map_eq_some_iff.1 hu2
      have hxw := HK.out.2.2.2.1 x (List.mem_of_getElem? hx)
      have hyw := HK.out.2.2.2.2 y (List.mem_of_getElem? hy)
      have x0 := hxw.1
      have x1 := hxw.2
      have y0 := hyw.1
      have y1 := hyw.2
      obtain ⟨j, hj⟩ : ∃ j : Nat, x.tmod 4096 = (j : Int) := ⟨(x.tmod 4096).toNat, by rw [Int.tmod_eq_emod_of_nonneg x0]; omega⟩
      have hj4 : j < 4096 := by rw [Int.tmod_eq_emod_of_nonneg x0] at hj; omega
      have j0 : (0 : Int) ≤ (j : Int) := by omega
      have j1 : (j : Int) < 4096 := by omega
      obtain ⟨q, hq⟩ : ∃ q, L[j]? = some q := ⟨_, List.getElem?_eq_getElem (by omega)⟩
      have cj : wo.cell? ⟨gI, j, none⟩ = some (.int .u8 (q.toNat : Int)) := by rw [hblk.cell j]; exact bV_at hq
      have fj := hblk.frozen j
      obtain ⟨z, hz⟩ := xor_u8 q y y0 y1
      have hzg := hblk.lt
      have H5 := Lib.hid (And.intro hblk (And.intro hb hL))
      subst hA1
      subst hA2
      clear hblk hb hL hu1 hu2 hx hy hxw hyw hq hlt
      go_wp2_with fail
      go_region
      go_wp2
      have hB6 := H5.out.1.set_ j (.int .u8 (z.toNat : Int))
      have hst : (bV L).setIfInBounds j (.int .u8 (z.toNat : Int)) = bV (L.set j z) := by
        have h := bT_set L [] j z (by rw [H5.out.2.2]; exact hj4)
        unfold bT at h
        rw [List.append_nil, List.append_nil] at h
        exact h
      rw [hst] at hB6
      exact ⟨⟨i + 1, L.set j z, by go_num, by omega, by rw [List.length_set]; exact H5.out.2.2, hB6, (H5.out.2.1.setCell (by simpa using hgw) _).drew⟩, by simp [intOf]; omega⟩
    · obtain rfl : i = n1 := by omega
      have hOwn := Own.new hblk (by rw [hL]; decide) (Nat.le_refl gI) hL.symm
      have LD : Hid (Calls Try.prog 9 #[.slice (some ⟨gI, 0, none⟩) 4096 4096] wo (RetDP wo 8 (pagesOf L 8) (marksOf L 8))) := Lib.hid (dload_ok (some ⟨gI, 0, none⟩) 8 4096 _ L wo hOwn.reads.1 (Nat.le_refl _) (by omega) (by omega))
      have RLD := Lib.hid fun W => rload_ok L 8 (by omega) (by omega) hL W
      have H5 := Lib.hid (And.intro hOwn (And.intro hb hL))
      clear hblk hOwn hb hL hlt
      go_wp2_with fail
      refine LD.out.mono ?_
      rintro e w5 ⟨gd, gb5, gt5, rfl, dp5, hg51, hg52, hg53, hb5⟩
      have rd5 := H5.out.1.reads.1.below hb5
      have b05 := bto0 H5.out.2.1 hb5
      obtain ⟨ps, hps⟩ : ∃ ps, pagesOf L 8 = ps := ⟨_, rfl⟩
      obtain ⟨T5, hT5⟩ : ∃ T, marksOf L 8 = T := ⟨_, rfl⟩
      rw [hps, hT5] at dp5 RLD
      have PN : Hid (Calls Try.prog 10 #[.pointer (some ⟨gd, 0, none⟩), .int .i64 3] w5 (RetPool w5 gd gb5 gt5 8 ps T5 3)) := Lib.hid (pnew_any (size := 3) dp5 (by omega) (by omega))
      have HPS := Lib.hid (And.intro hps (And.intro dp5.full dp5.hp))
      have H6 := Lib.hid (And.intro (rd5.more hb5.size) b05)
      clear hps hT5 dp5 rd5 b05 hb5 hg51 hg52 hg53
      go_wp2_with fail
      refine PN.out.mono ?_
      rintro e w6 ⟨gp, gm, D, rfl, pa, hb6, hgp, hgm⟩
      have LL := Lib.hid (load12_any pa hb6.size (by omega))
      have H7 := Lib.hid hb6
      clear pa hgp hgm PN hb6
      go_wp2_with fail
      refine LL.out.mono ?_
      rintro e w7 ⟨tn, A1x, n1x, c1x, lx, A2x, n2x, c2x, rx, A3, k3, c3, e0, rfl, bkx, hor⟩
      have b57 := tn.below _ _ (Nat.le_refl _) H7.out
      have rd7 := (H6.out.1.below b57).more b57.size
      have b07 := bto0 H6.out.2 b57
      have HO := Lib.hid hor
      have hX7 := Blk.new w7 25 #[.slice A1x n1x c1x, .slice A2x n2x c2x]
      have hb8 := ball (Below.refl w7.heap.size w7) (.cells #[.slice A1x n1x c1x, .slice A2x n2x c2x] 25)
      have bk8 := bkx.below hb8
      have rd8 := (rd7.below hb8).more hb8.size
      have b08 := bto0 b07 hb8
      have r38 : Hid (∀ X, Reads w7 w7.heap.size 1 A3 k3 X → Reads (w7.alloc (.cells #[.slice A1x n1x c1x, .slice A2x n2x c2x] 25)) (w7.alloc (.cells #[.slice A1x n1x c1x, .slice A2x n2x c2x] 25)).heap.size 1 A3 k3 X) := Lib.hid fun X h => (h.below hb8).more hb8.size
      obtain ⟨W8, hW8⟩ : ∃ W8, w7.alloc (.cells #[.slice A1x n1x c1x, .slice A2x n2x c2x] 25) = W8 := ⟨_, rfl⟩
      rw [hW8] at hX7 bk8 rd8 b08 r38
      have cv8 := rd8.cnv (c := 4096)
      have H8 := Lib.hid (And.intro hX7 (And.intro bk8 (And.intro rd8 (And.intro b08 hor))))
      have hsx : w7.heap.size < W8.heap.size := hX7.lt
      clear tn bkx hor b57 rd7 b07 hX7 hb8 bk8 rd8 b08 HO LL
      go_wp2_with fail
      refine (RLD.out _).mono ?_
      rintro e w9 ⟨A4, c4, A5, c5, rfl, hr4, hr5, hc4, hc5, _, _, hb9⟩
      have hb10 := ball hb9 (.cells #[.slice A4 8 c4, .slice A5 8 c5] 47)
      have hD10 := Blk.new w9 47 #[.slice A4 8 c4, .slice A5 8 c5]
      have hr10 := (hr4.below (ball (Below.refl w9.heap.size w9) (.cells #[.slice A4 8 c4, .slice A5 8 c5] 47))).more (ball (Below.refl w9.heap.size w9) (.cells #[.slice A4 8 c4, .slice A5 8 c5] 47)).size
      obtain ⟨W10, hW10⟩ : ∃ W10, w9.alloc (.cells #[.slice A4 8 c4, .slice A5 8 c5] 47) = W10 := ⟨_, rfl⟩
      rw [hW10] at hb10 hD10 hr10
      have RL : Hid (Calls Try.prog 13 #[.agg #[.slice A4 8 c4, .slice A5 8 c5]] W10 (RetRL W10 ps 8)) := Lib.hid (rload12_any A4 c4 A5 c5 ps hr10 HPS.out.2.2 HPS.out.2.1 (by omega))
      have d0 : W10.cell? ⟨w9.heap.size, 0, none⟩ = some (.slice A4 8 c4) := hD10.cell 0
      have d1 : W10.cell? ⟨w9.heap.size, 1, none⟩ = some (.slice A5 8 c5) := hD10.cell 1
      have H10 := Lib.hid hb10
      clear hb9 hb10 hD10 hr10 hr4 hr5 hc4 hc5 RLD cv8
      go_wp2_with fail
      refine RL.out.mono ?_
      rintro e w11 ⟨B1, m1, d1, ly, B2, m2, d2, ry, vp, ok, rfl, bky, hb11, hory⟩
      have b811 := bto0 H10.out hb11
      have X11 := H8.out.1.below b811 H8.out.1.lt
      have hbB := ball (Below.refl w11.heap.size w11) (.cells #[.slice B1 m1 d1, .slice B2 m2 d2] 25)
      have Y12 := Blk.new w11 25 #[.slice B1 m1 d1, .slice B2 m2 d2]
      have X12 := X11.alloc (.cells #[.slice B1 m1 d1, .slice B2 m2 d2] 25)
      have bky12 := bky.below hbB
      have b812 := ball b811 (.cells #[.slice B1 m1 d1, .slice B2 m2 d2] 25)
      obtain ⟨W12, hW12⟩ : ∃ W12, w11.alloc (.cells #[.slice B1 m1 d1, .slice B2 m2 d2] 25) = W12 := ⟨_, rfl⟩
      rw [hW12] at Y12 X12 bky12 b812
      have z0 : W12.cell? ⟨w7.heap.size, 0, none⟩ = some (.slice A1x n1x c1x) := X12.cell 0
      have z1 : W12.cell? ⟨w7.heap.size, 1, none⟩ = some (.slice A2x n2x c2x) := X12.cell 1
      have v0 : W12.cell? ⟨w11.heap.size, 0, none⟩ = some (.slice B1 m1 d1) := Y12.cell 0
      have v1 : W12.cell? ⟨w11.heap.size, 1, none⟩ = some (.slice B2 m2 d2) := Y12.cell 1
      have bkx12 := H8.out.2.1.below b812
      have rd12 := (H8.out.2.2.1.below b812).more b812.size
      have b012 := bto0 H8.out.2.2.2.1 b812
      have r312 : Hid (∀ X, Reads w7 w7.heap.size 1 A3 k3 X → Reads W12 W12.heap.size 1 A3 k3 X) := Lib.hid fun X h => ((r38.out X h).below b812).more b812.size
      have SM : Hid (∀ W, Below W12.heap.size W12 W → Calls Try.prog 14 #[.agg #[.slice A1x n1x c1x, .slice A2x n2x c2x], .agg #[.slice B1 m1 d1, .slice B2 m2 d2]] W (RetM W (pbk lx rx = pbk ly ry))) := Lib.hid fun W hW => same_any12 A1x n1x c1x lx A2x n2x c2x rx B1 m1 d1 ly B2 m2 d2 ry W (bkx12.below hW) (bky12.below hW)
      have H12 := Lib.hid (And.intro X12 (And.intro bkx12 (And.intro rd12 b012)))
      have hs12 : w7.heap.size < W12.heap.size := X12.lt
      have hs13 : w11.heap.size < W12.heap.size := Y12.lt
      have HY := Lib.hid hory
      clear hory X11 hbB Y12 X12 bky bky12 b811 b812 bkx12 rd12 b012 hb11 RL r38
      rcases H8.out.2.2.2.2 with ⟨rfl, L9, bs, hP, hall, hbs, hR, hg, hm, hk3, hrP⟩ | ⟨hne, rfl, rfl, hk3, hno⟩
      · have HX := Lib.hid (And.intro hP (And.intro hall (And.intro hbs (And.intro hR (And.intro hg (And.intro hm (And.intro hk3 hrP)))))))
        rcases HY.out with ⟨rfl, bs2, hR2, hg2, hm2⟩ | ⟨rfl, _, _, hno2⟩
        rotate_left
        · exact absurd ⟨_, hg, hm⟩ (hno2 bs hR)
        have hE : pbk lx rx = pbk ly ry := by
          rw [hR] at hR2
          obtain rfl := Option.some.inj hR2
          rw [hg] at hg2
          injection hg2 with hg2
          injection hg2 with hg2 _
        have HE := Lib.hid hE
        clear hE hP hall hbs hR hg hm hk3 hrP hR2 hg2 hm2
        go_wp2_with fail
        refine (SM.out _ (Below.refl _ _)).mono ?_
        rintro e w13 ⟨b, rfl, hb, hb13⟩
        obtain rfl : b = true := hb.2 HE.out
        have hk8 : k3 ≤ 8 := by
          have h := (chP_at _ _ _ HX.out.1).2.1
          have h2 := HX.out.2.2.2.2.2.2.1
          omega
        have k3I : (k3 : Int) ≤ 8 := by omega
        have k30 : (0 : Int) ≤ (k3 : Int) := by omega
        have X13 := H12.out.1.below hb13 H12.out.1.lt
        have hrP13 := (r312.out _ HX.out.2.2.2.2.2.2.2).below hb13
        have bk13 := H12.out.2.1.below hb13
        have rd13 := (H12.out.2.2.1.below hb13).more hb13.size
        have b013 := bto0 H12.out.2.2.2 hb13
        have hs14 : w7.heap.size < w13.heap.size := X13.lt
        have hz13 := hb13.size
        have H13 := Lib.hid (And.intro X13 (And.intro (hrP13.more hz13) (And.intro bk13 (And.intro rd13 b013))))
        clear hb hb13 X13 hrP13 bk13 rd13 b013 SM
        go_wp2_with fail
        go_loopw [23, 140] (fun u23 u140 wr => ∃ (i : Nat) (s : List UInt8), u23 = .string (str s) ∧ u140 = .int .i64 i ∧ i ≤ k3 ∧ s = (L9.take i).flatMap (fun x => shB (pgK ps x)) ∧ s.length ≤ i * 504 ∧ Below w13.heap.size w13 wr) (fun _ u140 _ => k3 - (intOf u140).toNat)
        case atStart => exact ⟨0, [], rfl, rfl, by omega, rfl, by simp, Below.refl _ _⟩
        case round =>
          obtain ⟨wi, rfl⟩ : ∃ wi : World, wi = wr := ⟨_, rfl⟩
          obtain ⟨i2, s, rfl, rfl, hi2, hs, hsl, hbi⟩ := hrel
          have q0 : (0 : Int) ≤ (i2 : Int) := by omega
          have hzi := hbi.size
          by_cases hlt2 : i2 < k3
          · have q1 : (i2 : Int) < (k3 : Int) := by omega
            have pgr := H13.out.2.1.below hbi
            have pat : ∀ j : Nat, j < k3 → ∃ (ad : Addr) (p : Nat), A3 = some ad ∧ L9[j]? = some p ∧ wi.cell? (ad.add j) = some (.int .u32 (p : Int)) := by
              intro j hj
              obtain ⟨ad', u, e, hb, hu, hc⟩ := pgr.at_ hj
              unfold pnV at hu
              rw [List.getElem?_map, Option.map_eq_some_iff] at hu
              obtain ⟨p, hp, rfl⟩ := hu
              exact ⟨ad', p, e, hp, hc⟩
            obtain ⟨ad, p, hA3, hp, hpc⟩ := pat i2 hlt2
            obtain ⟨q, hq, hbkq, hnx⟩ := (chP_at _ _ _ HX.out.1).2.2 i2 p hp
            have hp8 : p < 8 := by
              have h := lt_of_at hq
              rw [HPS.out.2.2] at h
              exact h
            have hql : q.length = 512 := HPS.out.2.1 q (List.mem_of_getElem? hq)
            have hshq : shOk q = true := by
              have h := HX.out.2.1 p (List.mem_of_getElem? hp)
              rwa [pgK_of hq] at h
            have hqL : (L.drop (p * 512)).take 512 = q := by
              have h := hq
              rw [← HPS.out.1] at h
              unfold pagesOf at h
              rw [List.getElem?_map, Option.map_eq_some_iff] at h
              obtain ⟨x, hx, rfl⟩ := h
              have h2 := List.getElem?_eq_some_iff.1 hx
              obtain ⟨h3, h4⟩ := h2
              rw [List.getElem_range] at h4
              rw [h4]
            have p0 : (0 : Int) ≤ (p : Int) := by omega
            have p8 : (p : Int) < 8 := by omega
            have p81 : (p : Int) * 512 + 512 ≤ 4096 := by omega
            obtain ⟨A6, cu, rdc⟩ := cutb_mid (A := some ⟨gI, 0, none⟩) (n := 4096) (c := 4096) .i64 .i64 (p * 512) (p * 512 + 512) ((p : Int) * 512) ((p : Int) * 512 + 512) (by omega) (by omega) (by omega) (by omega) (Nat.le_refl _)
            rw [show p * 512 + 512 - p * 512 = 512 from by omega] at cu rdc
            obtain ⟨cc, hcc⟩ : ∃ cc, 4096 - p * 512 = cc := ⟨_, rfl⟩
            rw [hcc] at cu
            have rdq := rdc _ _ _ (H13.out.2.2.2.1.below hbi)
            rw [hqL] at rdq
            have cvq := rdq.cnv (c := cc)
            have RG := Lib.hid (rhget_any q (by omega) wi)
            obtain ⟨hok, hkk⟩ : hdOk q = true ∧ hdK q = 4 := by
              unfold bkHd at hbkq
              rw [Bool.and_eq_true, decide_eq_true_eq] at hbkq
              exact hbkq
            have hv : hdV q = .agg #[.int .u8 4, .int .u16 (hdC q : Int), .int .u32 (hdN q : Int)] := by unfold hdV; rw [hok, if_pos rfl, hkk]; rfl
            have hC5 : hdC q ≤ 504 := by
              have h := hshq
              unfold shOk at h
              rw [Bool.and_eq_true, decide_eq_true_eq] at h
              exact h.1
            have hnext : (i2 + 1 < k3 ∧ wi.cell? ⟨ad.block, ad.off + (i2 + 1), none⟩ = some (.int .u32 (hdN q : Int))) ∨ (i2 + 1 = k3 ∧ hdN q = 0) := by
              have hk3 := HX.out.2.2.2.2.2.2.1
              rcases hnx with ⟨h1, h2⟩ | ⟨h1, h2⟩
              · obtain ⟨ad', p', e, h3, h4⟩ := pat (i2 + 1) (by omega)
                rw [hA3] at e
                injection e with e
                subst e
                rw [h2] at h3
                injection h3 with h3
                subst h3
                exact .inl ⟨by omega, by rw [← h4]; congr 1⟩
              · exact .inr ⟨by omega, h2⟩
            have hst : L9.take (i2 + 1) = L9.take i2 ++ [p] := by rw [List.take_add_one, hp]; rfl
            have hsB : shB q = (q.drop 8).take (hdC q) := rfl
            have hpk := pgK_of hq
            obtain ⟨C, hC⟩ : ∃ C, hdC q = C := ⟨_, rfl⟩
            obtain ⟨N, hN⟩ : ∃ N, hdN q = N := ⟨_, rfl⟩
            rw [hC, hN] at hv
            rw [hC] at hC5 hsB
            rw [hN] at hnext
            unfold RetHd at RG
            rw [hv, hok] at RG
            have hcut : ∀ W, (Instr.slice 9 (.string (str q)) (some (.int .i64 8)) (some (.int .i64 (8 + (C : Int)))) none).run Try.prog W = .ok (.string (str (shB q))) W := cut_mid (P := Try.prog) Try.underlying9 q (shB q) .i64 .i64 8 (8 + (C : Int)) (by omega) (by omega) (by rw [hql]; omega) (by rw [hsB, show (8 : Int).toNat = 8 from rfl, show (8 + (C : Int)).toNat - 8 = C from by omega])
            have hBl : (shB q).length ≤ 504 := by rw [hsB, List.length_take]; omega
            have hpgk : shB (pgK ps p) = shB q := by rw [hpk]
            obtain ⟨rr, hrr⟩ : ∃ rr, shB q = rr := ⟨_, rfl⟩
            rw [hrr] at hcut hBl hpgk
            have hz9 : ¬ (9223372036854775807 < (str s).size + (str rr).size) := by rw [str_size, str_size]; omega
            have HS := Lib.hid (And.intro hs (And.intro hsl (And.intro hst (And.intro hpgk (And.intro hBl hbi)))))
            have CI : (C : Int) ≤ 504 := by omega
            subst hA3
            clear hs hsl hst hpgk hBl hbi pat pgr hq hbkq hnx hshq hqL hql rdq rdc hok hkk hv hsB hpk hC hN hrr hC5 hcc hp hlt2
            go_wp2_with fail
            refine RG.out.mono ?_
            rintro e w14 ⟨rfl, hb14⟩
            have b1314 := bto0 HS.out.2.2.2.2.2 hb14
            have Y15 := Blk.new w14 55 #[.int .u8 4, .int .u16 (C : Int), .int .u32 (N : Int)]
            have b15 := ball b1314 (.cells #[.int .u8 4, .int .u16 (C : Int), .int .u32 (N : Int)] 55)
            have b14i := ball hb14 (.cells #[.int .u8 4, .int .u16 (C : Int), .int .u32 (N : Int)] 55)
            obtain ⟨W15, hW15⟩ : ∃ W15, w14.alloc (.cells #[.int .u8 4, .int .u16 (C : Int), .int .u32 (N : Int)] 55) = W15 := ⟨_, rfl⟩
            rw [hW15] at Y15 b15 b14i
            have h0 : W15.cell? ⟨w14.heap.size, 0, none⟩ = some (.int .u8 4) := Y15.cell 0
            have h1 : W15.cell? ⟨w14.heap.size, 1, none⟩ = some (.int .u16 (C : Int)) := Y15.cell 1
            have h2 : W15.cell? ⟨w14.heap.size, 2, none⟩ = some (.int .u32 (N : Int)) := Y15.cell 2
            have hs15 : w14.heap.size < W15.heap.size := Y15.lt
            have hC0 : (0 : Int) ≤ (C : Int) := by omega
            have hw1 : IntKind.i64.wrap ((i2 : Int) + 1) = (i2 : Int) + 1 := by rw [IntKind.wrap_i64]; omega
            have hw2 : (0 : Int) ≤ (i2 : Int) + 1 := by omega
            have hadb : ad.block < wi.heap.size := by
              have h := cell_lt15 hpc
              rwa [block_of_add] at h
            have HB15 := Lib.hid b15
            rcases hnext with ⟨hn1, hn2⟩ | ⟨hn1, hn2⟩
            · have g1 : (i2 : Int) + 1 < (k3 : Int) := by omega
              have g2 : ((i2 : Int) + 1 == (k3 : Int)) = false := by simp; omega
              have g0 : decide ((i2 : Int) + 1 < (k3 : Int)) = true := by simp; omega
              have gC : decide ((504 : Int) < (C : Int)) = false := by simp; omega
              have gN : ((N : Int) != (N : Int)) = false := by simp
              have g3 : i2 + 1 < k3 := hn1
              have g4 : W15.cell? ⟨ad.block, ad.off + (i2 + 1), none⟩ = some (.int .u32 (N : Int)) := (b14i.cell (p := ⟨ad.block, ad.off + (i2 + 1), none⟩) hadb).trans hn2
              clear hn1 hn2 b15 b14i b1314 hb14 Y15 hpc
              go_wp2_with fail
              clear hW15
              go_quiet (fail)
              go_wp2_with fail
              rw [str_append]
              exact ⟨⟨i2 + 1, s ++ rr, rfl, by go_num, by omega, by rw [HS.out.2.2.1, List.flatMap_append, ← HS.out.1]; simp [HS.out.2.2.2.1], by rw [List.length_append]; have h3 := HS.out.2.1; have h4 := HS.out.2.2.2.2.1; omega, bdr HB15.out _⟩, by simp [intOf]; omega⟩
            · have g0 : decide ((i2 : Int) + 1 < (k3 : Int)) = false := by simp; omega
              have g2 : ((i2 : Int) + 1 == (k3 : Int)) = true := by simp; omega
              have g3 : ((N : Int) != 0) = false := by simp; omega
              have gC : decide ((504 : Int) < (C : Int)) = false := by simp; omega
              have HQ1 := Lib.hid (And.intro q1 hi2)
              clear hn1 b15 b14i b1314 hb14 Y15 hpc q1 hi2 k3I k30 hk8 p8 p81 p0 hp8 hadb hn2
              go_wp2_with fail
              clear hW15
              go_quiet (fail)
              go_wp2_with fail
              rw [str_append]
              exact ⟨⟨i2 + 1, s ++ rr, rfl, by go_num, by have h := HQ1.out.1; omega, by rw [HS.out.2.2.1, List.flatMap_append, ← HS.out.1]; simp [HS.out.2.2.2.1], by rw [List.length_append]; have h3 := HS.out.2.1; have h4 := HS.out.2.2.2.2.1; omega, bdr HB15.out _⟩, by have h := HQ1.out.1; simp [intOf]; omega⟩
          · obtain rfl : i2 = k3 := by omega
            have hsb : s = bookB (pbk lx rx) := by
              rw [bookB_of HX.out.2.2.2.2.1, HX.out.2.2.1, hs, List.take_of_length_le (by rw [HX.out.2.2.2.2.2.2.1]; exact Nat.le_refl _)]
            have X14 := H13.out.1.below hbi H13.out.1.lt
            have bk14 := H13.out.2.2.1.below hbi
            have b014 := bto0 H13.out.2.2.2.2 hbi
            have MA : Hid (∀ W, Below wi.heap.size wi W → Calls Try.prog 16 #[.agg #[.slice A1x n1x c1x, .slice A2x n2x c2x]] W (RetM W (MayB (pbk lx rx)))) := Lib.hid fun W hW => rmay_any A1x n1x c1x lx A2x n2x c2x rx W (bk14.below hW)
            have PA : Hid (∀ W, Below wi.heap.size wi W → Calls Try.prog 17 #[.agg #[.slice A1x n1x c1x, .slice A2x n2x c2x]] W (RetB W (.string (str s)))) := Lib.hid fun W hW => by rw [hsb]; exact rput_any A1x n1x c1x lx A2x n2x c2x rx W (bk14.below hW) HX.out.2.2.2.2.2.1
            have H14 := Lib.hid (And.intro X14 b014)
            obtain ⟨sa, hsa⟩ : ∃ sa, str s = sa := ⟨_, rfl⟩
            rw [hsa] at PA ⊢
            have ss : (sa.toList == sa.toList) = true := beq_self_eq_true _
            clear hs hsb hsl X14 bk14 b014 hbi hsa hlt2 hi2
            go_wp2_with fail
            refine (FX.out _).mono ?_
            rintro e w16 ⟨rfl, hb16⟩
            have X16 := H14.out.1.below hb16 H14.out.1.lt
            have y0 : w16.cell? ⟨w7.heap.size, 0, none⟩ = some (.slice A1x n1x c1x) := X16.cell 0
            have y1 : w16.cell? ⟨w7.heap.size, 1, none⟩ = some (.slice A2x n2x c2x) := X16.cell 1
            have MA2 := Lib.hid (MA.out _ hb16)
            have H16 := Lib.hid (And.intro X16 hb16)
            have hs16 := X16.lt
            clear X16 hb16 MA
            go_wp2_with fail
            refine MA2.out.mono ?_
            rintro e w17 ⟨b, rfl, hb, hb17⟩
            obtain rfl : b = true := hb.2 HX.out.2.2.2.2.2.1
            have X17 := H16.out.1.below hb17 H16.out.1.lt
            have x0 : w17.cell? ⟨w7.heap.size, 0, none⟩ = some (.slice A1x n1x c1x) := X17.cell 0
            have x1 : w17.cell? ⟨w7.heap.size, 1, none⟩ = some (.slice A2x n2x c2x) := X17.cell 1
            have hb117 := bto0 H16.out.2 hb17
            have PA2 := Lib.hid (PA.out _ hb117)
            have H17 := Lib.hid (bto0 H14.out.2 hb117)
            have hs17 := X17.lt
            clear X17 hb17 hb117 hb PA
            go_wp2_with fail
            refine PA2.out.mono ?_
            rintro e w18 ⟨rfl, hb18⟩
            have H18 := Lib.hid (bto0 H17.out hb18)
            clear hb18
            go_wp2
            go_ret
            exact ⟨by first | rfl | (rw [ss]), H18.out⟩
      · have HX := Lib.hid (And.intro hne (And.intro hk3 hno))
        rcases HY.out with ⟨rfl, bs2, hR2, hg2, hm2⟩ | ⟨rfl, _, _, hno2⟩
        · exact absurd ⟨_, hg2, hm2⟩ (hno bs2 hR2)
        have e9 : (e0 == 0) = false := by simpa using hne
        have e10 : (e0 != 0) = true := by simpa using hne
        subst hk3
        have SN : Hid (∀ W, Below W12.heap.size W12 W → Calls Try.prog 14 #[.agg #[.slice A1x n1x c1x, .slice A2x n2x c2x], .agg #[.slice none 0 0, .slice none 0 0]] W (RetM W (pbk [] [] = pbk [] []))) := Lib.hid fun W hW => same_any12 A1x n1x c1x [] A2x n2x c2x [] none 0 0 [] none 0 0 [] W (H12.out.2.1.below hW) (bk_nil12 _)
        clear hne hno hno2
        go_wp2_with fail
        refine (FX.out _).mono ?_
        rintro e w13 ⟨rfl, hb13⟩
        have X13 := H12.out.1.below hb13 H12.out.1.lt
        have y0 : w13.cell? ⟨w7.heap.size, 0, none⟩ = some (.slice A1x n1x c1x) := X13.cell 0
        have y1 : w13.cell? ⟨w7.heap.size, 1, none⟩ = some (.slice A2x n2x c2x) := X13.cell 1
        have SN2 := Lib.hid (SN.out _ hb13)
        have H13 := Lib.hid (bto0 H12.out.2.2.2 hb13)
        clear hb13 X13 SN
        go_wp2_with fail
        refine SN2.out.mono ?_
        rintro e w14 ⟨b, rfl, hb, hb14⟩
        obtain rfl : b = true := hb.2 (by first | rfl | trivial)
        have H14 := Lib.hid (bto0 H13.out hb14)
        clear hb hb14 y0 y1
        go_wp2
        go_ret
        exact ⟨rfl, H14.out⟩
end
end Go.Proofs.Ytjlpfhioacphkaa
