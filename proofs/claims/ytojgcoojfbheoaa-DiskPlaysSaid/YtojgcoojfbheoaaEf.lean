/-
  The law DiskPlays.
-/
import Derived.Test.YtojgcoojfbheoaaEe
namespace Go.Proofs.Ytojgcoojfbheoaa
open Go.RowKit

set_option maxRecDepth 100000 in
set_option maxHeartbeats 8000000 in
theorem diskPlays_in (n : Nat) (A : Option Addr) (m cap : Nat) (l : List Op4) (w : World) (hn1 : 1 ≤ n) (hn2 : n ≤ 20) (hm : m ≤ 100) (hr : Reads w w.heap.size 4 A m (vO l)) (hok : ∀ v ∈ l, v.ok) :
    Calls Try.prog 3 #[.int .i64 n, .slice A m cap] w (RetB w (.bool true)) := by
  have F := Lib.hid dfixed_any
  have N := Lib.hid (newDP n hn1 (by omega))
  have RN := Lib.hid (rnew_ok n hn1 (by omega))
  obtain ⟨ps0, hps⟩ : ∃ ps, pagesOf (zb n) n = ps := ⟨_, rfl⟩
  obtain ⟨T0, hT⟩ : ∃ T, marksOf (zb n) n = T := ⟨_, rfl⟩
  rw [hps, hT] at N RN
  clear hps hT
  have g1 : (1 : Int) ≤ (n : Int) := by omega
  have g2 : (n : Int) ≤ 20 := by omega
  have g3 : (m : Int) ≤ 100 := by omega
  go_enter Try.func3, Try.ntmps3
  go_wp2_with fail
  refine (N.out _).mono ?_
  rintro e w1 ⟨g0, gb0, gt0, rfl, hd1, k1, k2, k3, hb1⟩
  go_wp2_with fail
  refine (RN.out _).mono ?_
  rintro e w2 ⟨A1, c1, A2, c2, rfl, hr1, hr2, hc1, hc2, hlo1, hlo2, hb2⟩
  have hl1 := hd1.lts
  have hz2 := hb2.size
  have hz1 := hb1.size
  have hRP := RP.start (B := w.heap.size) (gb := gb0) (gt := gt0) hn1 hr1 hr2 hc1 hc2 hlo1 hlo2 (by omega) hl1.2.1 hl1.2.2 hz2
  have hdp := hd1.below (ball hb2 (.cells #[.slice A1 n c1, .slice A2 n c2] 31)) hl1.1 hl1.2.1 hl1.2.2
  have hbb := (bto0 hb1 hb2).alloc (by omega) (.cells #[.slice A1 n c1, .slice A2 n c2] 31)
  have hM : w.heap.size ≤ w2.heap.size := by omega
  obtain ⟨M, hMM⟩ : ∃ M, w2.heap.size = M := ⟨_, rfl⟩
  go_wp2_with fail
  obtain ⟨W3, hW3⟩ : ∃ W, w2.alloc (.cells #[.slice A1 n c1, .slice A2 n c2] 31) = W := ⟨_, rfl⟩
  rw [hW3] at hRP hdp hbb ⊢
  rw [hMM] at hRP hM
  clear hW3 hMM hr1 hr2 hlo1 hlo2 hb2 hb1 hd1 hl1 hz1 hz2 N RN
  go_loopw [5, 64] (fun u5 u64 wr => ∃ (k g gb gt : Nat) (ps : List (List UInt8)) (T : List Bool) (A c : _) (A' c' : _), u5 = .pointer (some ⟨g, 0, none⟩) ∧ u64 = .int .i64 k ∧ k ≤ m ∧ DP wr g gb gt n ps T ∧ RP wr w.heap.size M n gb gt ps T A c A' c' ∧ w.heap.size ≤ g ∧ w.heap.size ≤ gb ∧ w.heap.size ≤ gt ∧ Below w.heap.size w wr) (fun _ u64 _ => m - (intOf u64).toNat)
  case atStart => exact ⟨0, g0, gb0, gt0, ps0, T0, _, _, _, _, rfl, rfl, by omega, hdp, hRP, k1, k2, k3, hbb⟩
  case round =>
    clear hRP hdp hbb hc1 hc2 k1 k2 k3
    obtain ⟨k, g, gb, gt, ps, T, A1, c1, A2, c2, rfl, rfl, hk, hdp, hRP, k1, k2, k3, hb⟩ := hrel
    have q0 : (0 : Int) ≤ (k : Int) := by omega
    by_cases hlt : k < m
    · have q1 : (k : Int) < (m : Int) := by omega
      obtain ⟨ad, v, rfl, hab, hv, e0, e1, e2, e3⟩ := (hr.below hb).op hlt
      have vok := hok v (List.mem_of_getElem? hv)
      obtain ⟨vk, vp, vb, vs⟩ := v
      obtain ⟨_, ⟨v1, v2⟩, v3, v4⟩ := vok
      simp only at v1 v2 v3 v4 e0 e1 e2 e3
      obtain ⟨b, rfl⟩ := byte_of v3 v4
      obtain ⟨p, rfl⟩ : ∃ q : Nat, vp = (q : Int) := ⟨vp.toNat, by omega⟩
      have hOb := ball (Below.refl wr.heap.size wr) (.cells #[.int .i64 vk, .int .u32 p, .int .u8 b.toNat, .bool vs] 36)
      have XO := Blk.new wr 36 #[.int .i64 vk, .int .u32 p, .int .u8 b.toNat, .bool vs]
      have hlx := hdp.lts
      have hdA := hdp.below hOb hlx.1 hlx.2.1 hlx.2.2
      have hRA := hRP.below hOb
      have hbA := hb.alloc hb.size (.cells #[.int .i64 vk, .int .u32 p, .int .u8 b.toNat, .bool vs] 36)
      have hzA : (wr.alloc (.cells #[.int .i64 vk, .int .u32 p, .int .u8 b.toNat, .bool vs] 36)).heap.size = wr.heap.size + 1 := by simp
      obtain ⟨O, hO⟩ : ∃ O, wr.heap.size = O := ⟨_, rfl⟩
      obtain ⟨WA, hWA⟩ : ∃ WA, (wr.alloc (.cells #[.int .i64 vk, .int .u32 p, .int .u8 b.toNat, .bool vs] 36)) = WA := ⟨_, rfl⟩
      have HWA : Hid (wr.alloc (.cells #[.int .i64 vk, .int .u32 p, .int .u8 b.toNat, .bool vs] 36) = WA) := hWA
      have HO : Hid (wr.heap.size = O) := hO
      rw [hWA] at hdA hRA hbA hzA XO
      rw [hO] at XO hzA hlx
      have hlA := hdA.lts
      have hOne : O ≠ gb ∧ O ≠ gt ∧ O ≠ M := ⟨by omega, by omega, fun e => by have := hRP.m.lt; omega⟩
      have HH := Lib.hid (And.intro hdA (And.intro hRA (And.intro hbA XO)))
      clear hWA hOb hdp hRP hdA hRA hbA XO hb hlx hv
      by_cases hk0 : vk = 0
      · subst hk0
        go_wp2_with fail
        rw [HWA.out]
        by_cases hpn : p < n
        · have hpI : (p : Int) < (n : Int) := by omega
          obtain ⟨q, hq⟩ : ∃ q, ps[p]? = some q := ⟨_, List.getElem?_eq_getElem (by rw [HH.out.1.hp]; exact hpn)⟩
          have hql : q.length = 512 := HH.out.1.full q (List.mem_of_getElem? hq)
          refine (read_ok HH.out.1 p q hq (by omega)).mono ?_
          rintro e w4 ⟨rfl, hB4, hb4⟩
          have R4 := HH.out.2.1.below hb4
          have O4 := HH.out.2.2.2.below hb4 HH.out.2.2.2.lt
          have o41 : w4.cell? ⟨O, 1, none⟩ = some (.int .u32 p) := O4.cell 1
          have m40 : w4.cell? ⟨M, 0, none⟩ = some (.slice A1 n c1) := R4.m.cell 0
          obtain ⟨ad1, q', rfl, _, hq', d4⟩ := R4.r1.text hpn
          obtain rfl : q = q' := by rw [hq] at hq'; exact Option.some.inj hq'
          have cv : ∀ j, (convert 37 9 (.slice (some ⟨WA.heap.size, 0, none⟩) 512 512)).run Try.prog (w4.drewN j) = .ok (.string (str q)) (w4.drewN j) := fun j => conv_blk (P := Try.prog) (hB4.drewN j) 37 5 9 Try.underlying37 Try.underlying5 Try.underlying9 512 512 hql
          rw [hzA] at hB4 hb4 cv
          have HF := Lib.hid (And.intro hB4 hb4)
          clear hq hq' hB4 hb4 R4 O4
          rw [hzA]
          go_wp2_with fail
          go_quiet (fail)
          obtain ⟨w5, hcl, hcb, _, _⟩ := clear_blk (c := 512) (HF.out.1.drewN nq) hql
          have b5 : Below WA.heap.size WA w5 := hcb _ _ (by omega) (bdr (by rw [hzA]; exact HF.out.2) nq)
          have Hcl := Lib.hid (And.intro hcl b5)
          clear hcl hcb b5 cv
          go_wp2_with fail
          rw [Hcl.out.1]
          have b5 := Hcl.out.2
          clear d4 o41 m40
          go_wp2
          go_roundw
          case rel => exact ⟨k + 1, g, gb, gt, ps, T, _, _, _, _, rfl, by go_num, by omega, HH.out.1.below b5 hlA.1 hlA.2.1 hlA.2.2, HH.out.2.1.below b5, k1, k2, k3, bto0 HH.out.2.2.1 (b5.mono (by omega))⟩
          case measure => simp [intOf]; omega
        · have hpI : (n : Int) ≤ (p : Int) := by omega
          have o41 : WA.cell? ⟨O, 1, none⟩ = some (.int .u32 p) := HH.out.2.2.2.cell 1
          have m40 : WA.cell? ⟨M, 0, none⟩ = some (.slice A1 n c1) := HH.out.2.1.m.cell 0
          refine (read_out HH.out.1 p (by omega) (by omega) (by omega)).mono ?_
          rintro e w4 ⟨rfl, rfl⟩
          go_wp2_with fail
          rw [clear_nil]
          have b5 := Below.refl WA.heap.size WA
          go_wp2
          go_roundw
          case rel => exact ⟨k + 1, g, gb, gt, ps, T, _, _, _, _, rfl, by go_num, by omega, HH.out.1.below b5 hlA.1 hlA.2.1 hlA.2.2, HH.out.2.1.below b5, k1, k2, k3, HH.out.2.2.1⟩
          case measure => simp [intOf]; omega
      · by_cases hk1 : vk = 1
        · subst hk1
          obtain ⟨pg, hpg⟩ : ∃ pg, List.replicate 512 b = pg := ⟨_, rfl⟩
          have hpl : pg.length = 512 := by rw [← hpg, List.length_replicate]
          have HPG : Hid (∀ W, Calls Try.prog 19 #[.int .u8 (b.toNat : Int), .int .i64 512] W fun e w' => e = .returned (.slice (some ⟨W.heap.size, 0, none⟩) 512 512) ∧ Blk w' W.heap.size 5 (bV pg) ∧ Below W.heap.size W w') := by
            intro W
            rw [← hpg]
            exact pageNL b 512 (by omega) W
          clear hpg
          go_wp2_with fail
          rw [HWA.out]
          refine (HPG.out _).mono ?_
          rintro e w4 ⟨rfl, hB4, hb4⟩
          rw [hzA] at hB4 ⊢
          have s4 := hb4.size
          have dp4 := HH.out.1.below hb4 hlA.1 hlA.2.1 hlA.2.2
          have rp4 := HH.out.2.1.below hb4
          have hu := HH.out.2.1.under hn1
          have hl4 := dp4.lts
          have O4 := HH.out.2.2.2.below hb4 HH.out.2.2.2.lt
          have b4 : Below w.heap.size w w4 := bto0 HH.out.2.2.1 hb4
          have o41 : w4.cell? ⟨O, 1, none⟩ = some (.int .u32 p) := O4.cell 1
          have o43 : w4.cell? ⟨O, 3, none⟩ = some (.bool vs) := O4.cell 3
          have m40 : w4.cell? ⟨M, 0, none⟩ = some (.slice A1 n c1) := rp4.m.cell 0
          have m41 : w4.cell? ⟨M, 1, none⟩ = some (.slice A2 n c2) := rp4.m.cell 1
          have hMg : g ≠ M ∧ gb ≠ M ∧ gt ≠ M := ⟨fun e => Blk.ne_ dp4.dk.d rp4.m (by decide) e, fun e => rp4.o1 e.symm, fun e => rp4.o2 e.symm⟩
          have hMO : M < O + 1 := by have := HH.out.2.1.m.lt; omega
          have cvW := conv_blk (P := Try.prog) hB4 37 5 9 Try.underlying37 Try.underlying5 Try.underlying9 512 512 hpl
          have cvS := conv_tail hB4 hpl
          have hd1 : (str (pg.drop 1)).size = 511 := by rw [str_size, List.length_drop, hpl]
          obtain ⟨s1, hs1⟩ : ∃ s1, str (pg.drop 1) = s1 := ⟨_, rfl⟩
          rw [hs1] at cvS hd1
          clear hs1
          rw [hzA] at s4 hu hlA
          clear HPG
          cases vs
          · by_cases hpn : p < n
            · have hpI : (p : Int) < (n : Int) := by omega
              have DW := Lib.hid (writeDP dp4 p hpn (by omega) ⟨O + 1, 0, none⟩ 512 (O + 2) pg (reads_blk hB4 hpl))
              clear cvS
              go_wp2_with fail
              refine DW.out.mono ?_
              rintro e w5 ⟨rfl, hL⟩
              have rp5 := rp4.left hL
              have dp5 := hL.1
              have hl5 := dp5.lts
              have s5 := hL.2.2.2
              have hB5 := hB4.same_ (hL.2.2.1 (O + 1) (by omega) (by omega))
              have b5 := b4.trans (hL.2.1 w.heap.size k2 k3)
              have O5 := O4.same_ (hL.2.2.1 O hOne.1 hOne.2.1)
              have o51 : w5.cell? ⟨O, 1, none⟩ = some (.int .u32 p) := O5.cell 1
              have m50 : w5.cell? ⟨M, 0, none⟩ = some (.slice A1 n c1) := rp5.m.cell 0
              have m51 : w5.cell? ⟨M, 1, none⟩ = some (.slice A2 n c2) := rp5.m.cell 1
              have cv5 := conv_blk (P := Try.prog) hB5 37 5 9 Try.underlying37 Try.underlying5 Try.underlying9 512 512 hpl
              have RW := Lib.hid (rwrite_ok A1 c1 A2 c2 ps T rp5.r1 rp5.r2 (by omega) p hpn pg hpl)
              clear hL
              go_wp2_with fail
              refine RW.out.mono ?_
              rintro e w6 ⟨A6, c6, A7, c7, rfl, hr61, hr62, hc6, hc7, hlo6, hlo7, hb6⟩
              have hMw := rp5.m.below hb6 rp5.m.lt
              have hMl := rp5.m.lt
              have s6 := hb6.size
              have hlw := (dp5.below hb6 hl5.1 hl5.2.1 hl5.2.2).lts
              have hbW := bto0 b5 hb6
              have pb6 := hB5.below hb6 hB5.lt
              have hBl := hB5.lt
              have hbx := hbW.alloc (by omega) (.cells #[.slice A6 n c6, .slice A7 n c7] 31)
              have mx := hMw.alloc (.cells #[.slice A6 n c6, .slice A7 n c7] 31)
              have zx : (w6.alloc (.cells #[.slice A6 n c6, .slice A7 n c7] 31)).heap.size = w6.heap.size + 1 := by simp
              have rpx := RP.stored (B := w.heap.size) (gb := gb) (gt := gt) mx ((hr61.alloc (Nat.le_refl _) (.cells #[.slice A6 n c6, .slice A7 n c7] 31)).more (by omega)) ((hr62.alloc (Nat.le_refl _) (.cells #[.slice A6 n c6, .slice A7 n c7] 31)).more (by omega)) hc6 hc7 (fun ad h => by have := hlo6 ad h; exact ⟨by omega, by omega, by omega⟩) (fun ad h => by have := hlo7 ad h; exact ⟨by omega, by omega, by omega⟩) hM HH.out.2.1.o1 HH.out.2.1.o2
              have dpx := (((dp5.below hb6 hl5.1 hl5.2.1 hl5.2.2).below (ball (Below.refl _ _) (.cells #[.slice A6 n c6, .slice A7 n c7] 31)) hlw.1 hlw.2.1 hlw.2.2).store (p := ⟨M, 0, none⟩) hMg.1 hMg.2.1 hMg.2.2 (.slice A6 n c6)).store (p := ⟨M, 1, none⟩) hMg.1 hMg.2.1 hMg.2.2 (.slice A7 n c7)
              have pbx := ((pb6.alloc (.cells #[.slice A6 n c6, .slice A7 n c7] 31)).far (p := ⟨M, 0, none⟩) (by show O + 1 ≠ M; omega) (.slice A6 n c6)).far (p := ⟨M, 1, none⟩) (by show O + 1 ≠ M; omega) (.slice A7 n c7)
              have bwx := (hbx.setCell (show w.heap.size ≤ (⟨M, 0, none⟩ : Addr).block from hM) (.slice A6 n c6)).setCell (show w.heap.size ≤ (⟨M, 1, none⟩ : Addr).block from hM) (.slice A7 n c7)
              have xc0 : (w6.alloc (.cells #[.slice A6 n c6, .slice A7 n c7] 31)).cell? ⟨M, 0, none⟩ = some _ := mx.cell 0
              have xc1 : (w6.alloc (.cells #[.slice A6 n c6, .slice A7 n c7] 31)).cell? ⟨M, 1, none⟩ = some _ := mx.cell 1
              have xf0 := mx.frozen 0
              have xf1 := mx.frozen 1
              obtain ⟨w9, hcl, hcb, hch, hcs⟩ := clear_row' (w := (((w6.alloc (.cells #[.slice A6 n c6, .slice A7 n c7] 31)).setCell ⟨M, 0, none⟩ (.slice A6 n c6)).setCell ⟨M, 1, none⟩ (.slice A7 n c7))) (O + 1) 0 512 512 (fun j hj => by rw [pbx.cell, Array.getElem?_eq_getElem (by rw [bV_size]; omega)]; rfl) (fun j _ => pbx.frozen _)
              have rp9 := rpx.cleared hch hcs (by omega) (fun ad h => by have := hlo6 ad h; omega) (fun ad h => by have := hlo7 ad h; omega)
              have dp9 := dpx.cleared hch (by omega) (by omega) (by omega)
              have b9 := hcb _ _ (by omega) bwx
              have HE := Lib.hid (And.intro rp9 (And.intro dp9 (And.intro b9 hcl)))
              clear rp9 dp9 b9 hcl hcb hch hcs rpx dpx pbx bwx hbx mx
              go_wp2_with fail
              rw [HE.out.2.2.2]
              go_wp2
              go_roundw
              case rel => exact ⟨k + 1, g, gb, gt, (ps.set p pg), (T.set p true), _, _, _, _, rfl, by go_num, by omega, HE.out.2.1, HE.out.1, k1, k2, k3, HE.out.2.2.1⟩
              case measure => simp [intOf]; omega
            · have hpI : (n : Int) ≤ (p : Int) := by omega
              clear cvS
              have DW := Lib.hid (write_outDP dp4 p (by omega) (by omega) (by omega) (.slice (some ⟨O + 1, 0, none⟩) 512 512))
              go_wp2_with fail
              refine DW.out.mono ?_
              rintro e wz ⟨rfl, rfl⟩
              go_wp2_with fail
              refine (rwrite_bad A1 c1 A2 c2 (by omega) p (by omega) (str pg) 512 (by rw [str_size]; exact hpl) 8 (.inl ⟨by omega, rfl⟩)).mono ?_
              rintro e w6 ⟨rfl, hb6⟩
              have hMw := rp4.m.below hb6 rp4.m.lt
              have s6 := hb6.size
              have hlw := (dp4.below hb6 hl4.1 hl4.2.1 hl4.2.2).lts
              have hbW := bto0 b4 hb6
              have pb6 := hB4.below hb6 hB4.lt
              have hbx := hbW.alloc (by omega) (.cells #[.slice A1 n c1, .slice A2 n c2] 31)
              have mx := hMw.alloc (.cells #[.slice A1 n c1, .slice A2 n c2] 31)
              have zx : (w6.alloc (.cells #[.slice A1 n c1, .slice A2 n c2] 31)).heap.size = w6.heap.size + 1 := by simp
              have rpx := RP.stored (B := w.heap.size) (gb := gb) (gt := gt) mx ((((rp4.r1.below hb6).more hb6.size).alloc (Nat.le_refl _) (.cells #[.slice A1 n c1, .slice A2 n c2] 31)).more (by omega)) ((((rp4.r2.below hb6).more hb6.size).alloc (Nat.le_refl _) (.cells #[.slice A1 n c1, .slice A2 n c2] 31)).more (by omega)) rp4.c1 rp4.c2 rp4.f1 rp4.f2 hM HH.out.2.1.o1 HH.out.2.1.o2
              have dpx := (((dp4.below hb6 hl4.1 hl4.2.1 hl4.2.2).below (ball (Below.refl _ _) (.cells #[.slice A1 n c1, .slice A2 n c2] 31)) hlw.1 hlw.2.1 hlw.2.2).store (p := ⟨M, 0, none⟩) hMg.1 hMg.2.1 hMg.2.2 (.slice A1 n c1)).store (p := ⟨M, 1, none⟩) hMg.1 hMg.2.1 hMg.2.2 (.slice A2 n c2)
              have pbx := ((pb6.alloc (.cells #[.slice A1 n c1, .slice A2 n c2] 31)).far (p := ⟨M, 0, none⟩) (by show O + 1 ≠ M; omega) (.slice A1 n c1)).far (p := ⟨M, 1, none⟩) (by show O + 1 ≠ M; omega) (.slice A2 n c2)
              have bwx := (hbx.setCell (show w.heap.size ≤ (⟨M, 0, none⟩ : Addr).block from hM) (.slice A1 n c1)).setCell (show w.heap.size ≤ (⟨M, 1, none⟩ : Addr).block from hM) (.slice A2 n c2)
              have xc0 : (w6.alloc (.cells #[.slice A1 n c1, .slice A2 n c2] 31)).cell? ⟨M, 0, none⟩ = some _ := mx.cell 0
              have xc1 : (w6.alloc (.cells #[.slice A1 n c1, .slice A2 n c2] 31)).cell? ⟨M, 1, none⟩ = some _ := mx.cell 1
              have xf0 := mx.frozen 0
              have xf1 := mx.frozen 1
              obtain ⟨w9, hcl, hcb, hch, hcs⟩ := clear_row' (w := (((w6.alloc (.cells #[.slice A1 n c1, .slice A2 n c2] 31)).setCell ⟨M, 0, none⟩ (.slice A1 n c1)).setCell ⟨M, 1, none⟩ (.slice A2 n c2))) (O + 1) 0 512 512 (fun j hj => by rw [pbx.cell, Array.getElem?_eq_getElem (by rw [bV_size]; omega)]; rfl) (fun j _ => pbx.frozen _)
              have rp9 := rpx.cleared hch hcs (by omega) (fun ad h => by have := hu.1 ad h; omega) (fun ad h => by have := hu.2 ad h; omega)
              have dp9 := dpx.cleared hch (by omega) (by omega) (by omega)
              have b9 := hcb _ _ (by omega) bwx
              have HE := Lib.hid (And.intro rp9 (And.intro dp9 (And.intro b9 hcl)))
              clear rp9 dp9 b9 hcl hcb hch hcs rpx dpx pbx bwx hbx mx
              go_wp2_with fail
              rw [HE.out.2.2.2]
              go_wp2
              go_roundw
              case rel => exact ⟨k + 1, g, gb, gt, ps, T, _, _, _, _, rfl, by go_num, by omega, HE.out.2.1, HE.out.1, k1, k2, k3, HE.out.2.2.1⟩
              case measure => simp [intOf]; omega
          · by_cases hpn : p < n
            · have hpI : (p : Int) < (n : Int) := by omega
              clear cvW
              have DW := Lib.hid (write_short dp4 p hpn (by omega) (some ⟨O + 1, 1, none⟩) 511)
              have sl1 := slice1 (O + 1)
              go_wp2_with fail
              refine DW.out.mono ?_
              rintro e wz ⟨rfl, rfl⟩
              go_wp2_with fail
              refine (rwrite_bad A1 c1 A2 c2 (by omega) p (by omega) s1 511 hd1 1 (.inr ⟨hpn, by omega, rfl⟩)).mono ?_
              rintro e w6 ⟨rfl, hb6⟩
              have hMw := rp4.m.below hb6 rp4.m.lt
              have s6 := hb6.size
              have hlw := (dp4.below hb6 hl4.1 hl4.2.1 hl4.2.2).lts
              have hbW := bto0 b4 hb6
              have pb6 := hB4.below hb6 hB4.lt
              have hbx := hbW.alloc (by omega) (.cells #[.slice A1 n c1, .slice A2 n c2] 31)
              have mx := hMw.alloc (.cells #[.slice A1 n c1, .slice A2 n c2] 31)
              have zx : (w6.alloc (.cells #[.slice A1 n c1, .slice A2 n c2] 31)).heap.size = w6.heap.size + 1 := by simp
              have rpx := RP.stored (B := w.heap.size) (gb := gb) (gt := gt) mx ((((rp4.r1.below hb6).more hb6.size).alloc (Nat.le_refl _) (.cells #[.slice A1 n c1, .slice A2 n c2] 31)).more (by omega)) ((((rp4.r2.below hb6).more hb6.size).alloc (Nat.le_refl _) (.cells #[.slice A1 n c1, .slice A2 n c2] 31)).more (by omega)) rp4.c1 rp4.c2 rp4.f1 rp4.f2 hM HH.out.2.1.o1 HH.out.2.1.o2
              have dpx := (((dp4.below hb6 hl4.1 hl4.2.1 hl4.2.2).below (ball (Below.refl _ _) (.cells #[.slice A1 n c1, .slice A2 n c2] 31)) hlw.1 hlw.2.1 hlw.2.2).store (p := ⟨M, 0, none⟩) hMg.1 hMg.2.1 hMg.2.2 (.slice A1 n c1)).store (p := ⟨M, 1, none⟩) hMg.1 hMg.2.1 hMg.2.2 (.slice A2 n c2)
              have pbx := ((pb6.alloc (.cells #[.slice A1 n c1, .slice A2 n c2] 31)).far (p := ⟨M, 0, none⟩) (by show O + 1 ≠ M; omega) (.slice A1 n c1)).far (p := ⟨M, 1, none⟩) (by show O + 1 ≠ M; omega) (.slice A2 n c2)
              have bwx := (hbx.setCell (show w.heap.size ≤ (⟨M, 0, none⟩ : Addr).block from hM) (.slice A1 n c1)).setCell (show w.heap.size ≤ (⟨M, 1, none⟩ : Addr).block from hM) (.slice A2 n c2)
              have xc0 : (w6.alloc (.cells #[.slice A1 n c1, .slice A2 n c2] 31)).cell? ⟨M, 0, none⟩ = some _ := mx.cell 0
              have xc1 : (w6.alloc (.cells #[.slice A1 n c1, .slice A2 n c2] 31)).cell? ⟨M, 1, none⟩ = some _ := mx.cell 1
              have xf0 := mx.frozen 0
              have xf1 := mx.frozen 1
              obtain ⟨w9, hcl, hcb, hch, hcs⟩ := clear_row' (w := (((w6.alloc (.cells #[.slice A1 n c1, .slice A2 n c2] 31)).setCell ⟨M, 0, none⟩ (.slice A1 n c1)).setCell ⟨M, 1, none⟩ (.slice A2 n c2))) (O + 1) 1 511 511 (fun j hj => by rw [pbx.cell, Array.getElem?_eq_getElem (by rw [bV_size]; omega)]; rfl) (fun j _ => pbx.frozen _)
              have rp9 := rpx.cleared hch hcs (by omega) (fun ad h => by have := hu.1 ad h; omega) (fun ad h => by have := hu.2 ad h; omega)
              have dp9 := dpx.cleared hch (by omega) (by omega) (by omega)
              have b9 := hcb _ _ (by omega) bwx
              have HE := Lib.hid (And.intro rp9 (And.intro dp9 (And.intro b9 hcl)))
              clear rp9 dp9 b9 hcl hcb hch hcs rpx dpx pbx bwx hbx mx
              go_wp2_with fail
              rw [HE.out.2.2.2]
              go_wp2
              go_roundw
              case rel => exact ⟨k + 1, g, gb, gt, ps, T, _, _, _, _, rfl, by go_num, by omega, HE.out.2.1, HE.out.1, k1, k2, k3, HE.out.2.2.1⟩
              case measure => simp [intOf]; omega
            · have hpI : (n : Int) ≤ (p : Int) := by omega
              clear cvW
              have DW := Lib.hid (write_outDP dp4 p (by omega) (by omega) (by omega) (.slice (some ⟨O + 1, 1, none⟩) 511 511))
              have sl1 := slice1 (O + 1)
              go_wp2_with fail
              refine DW.out.mono ?_
              rintro e wz ⟨rfl, rfl⟩
              go_wp2_with fail
              refine (rwrite_bad A1 c1 A2 c2 (by omega) p (by omega) s1 511 hd1 8 (.inl ⟨by omega, rfl⟩)).mono ?_
              rintro e w6 ⟨rfl, hb6⟩
              have hMw := rp4.m.below hb6 rp4.m.lt
              have s6 := hb6.size
              have hlw := (dp4.below hb6 hl4.1 hl4.2.1 hl4.2.2).lts
              have hbW := bto0 b4 hb6
              have pb6 := hB4.below hb6 hB4.lt
              have hbx := hbW.alloc (by omega) (.cells #[.slice A1 n c1, .slice A2 n c2] 31)
              have mx := hMw.alloc (.cells #[.slice A1 n c1, .slice A2 n c2] 31)
              have zx : (w6.alloc (.cells #[.slice A1 n c1, .slice A2 n c2] 31)).heap.size = w6.heap.size + 1 := by simp
              have rpx := RP.stored (B := w.heap.size) (gb := gb) (gt := gt) mx ((((rp4.r1.below hb6).more hb6.size).alloc (Nat.le_refl _) (.cells #[.slice A1 n c1, .slice A2 n c2] 31)).more (by omega)) ((((rp4.r2.below hb6).more hb6.size).alloc (Nat.le_refl _) (.cells #[.slice A1 n c1, .slice A2 n c2] 31)).more (by omega)) rp4.c1 rp4.c2 rp4.f1 rp4.f2 hM HH.out.2.1.o1 HH.out.2.1.o2
              have dpx := (((dp4.below hb6 hl4.1 hl4.2.1 hl4.2.2).below (ball (Below.refl _ _) (.cells #[.slice A1 n c1, .slice A2 n c2] 31)) hlw.1 hlw.2.1 hlw.2.2).store (p := ⟨M, 0, none⟩) hMg.1 hMg.2.1 hMg.2.2 (.slice A1 n c1)).store (p := ⟨M, 1, none⟩) hMg.1 hMg.2.1 hMg.2.2 (.slice A2 n c2)
              have pbx := ((pb6.alloc (.cells #[.slice A1 n c1, .slice A2 n c2] 31)).far (p := ⟨M, 0, none⟩) (by show O + 1 ≠ M; omega) (.slice A1 n c1)).far (p := ⟨M, 1, none⟩) (by show O + 1 ≠ M; omega) (.slice A2 n c2)
              have bwx := (hbx.setCell (show w.heap.size ≤ (⟨M, 0, none⟩ : Addr).block from hM) (.slice A1 n c1)).setCell (show w.heap.size ≤ (⟨M, 1, none⟩ : Addr).block from hM) (.slice A2 n c2)
              have xc0 : (w6.alloc (.cells #[.slice A1 n c1, .slice A2 n c2] 31)).cell? ⟨M, 0, none⟩ = some _ := mx.cell 0
              have xc1 : (w6.alloc (.cells #[.slice A1 n c1, .slice A2 n c2] 31)).cell? ⟨M, 1, none⟩ = some _ := mx.cell 1
              have xf0 := mx.frozen 0
              have xf1 := mx.frozen 1
              obtain ⟨w9, hcl, hcb, hch, hcs⟩ := clear_row' (w := (((w6.alloc (.cells #[.slice A1 n c1, .slice A2 n c2] 31)).setCell ⟨M, 0, none⟩ (.slice A1 n c1)).setCell ⟨M, 1, none⟩ (.slice A2 n c2))) (O + 1) 1 511 511 (fun j hj => by rw [pbx.cell, Array.getElem?_eq_getElem (by rw [bV_size]; omega)]; rfl) (fun j _ => pbx.frozen _)
              have rp9 := rpx.cleared hch hcs (by omega) (fun ad h => by have := hu.1 ad h; omega) (fun ad h => by have := hu.2 ad h; omega)
              have dp9 := dpx.cleared hch (by omega) (by omega) (by omega)
              have b9 := hcb _ _ (by omega) bwx
              have HE := Lib.hid (And.intro rp9 (And.intro dp9 (And.intro b9 hcl)))
              clear rp9 dp9 b9 hcl hcb hch hcs rpx dpx pbx bwx hbx mx
              go_wp2_with fail
              rw [HE.out.2.2.2]
              go_wp2
              go_roundw
              case rel => exact ⟨k + 1, g, gb, gt, ps, T, _, _, _, _, rfl, by go_num, by omega, HE.out.2.1, HE.out.1, k1, k2, k3, HE.out.2.2.1⟩
              case measure => simp [intOf]; omega
        · by_cases hk2 : vk = 2
          · subst hk2
            have hMg : g ≠ M ∧ gb ≠ M ∧ gt ≠ M := ⟨fun e => Blk.ne_ HH.out.1.dk.d HH.out.2.1.m (by decide) e, fun e => HH.out.2.1.o1 e.symm, fun e => HH.out.2.1.o2 e.symm⟩
            go_wp2_with fail
            rw [HWA.out]
            rcases first_free T with ⟨i, hi, hj⟩ | hj
            · refine (takeDP HH.out.1 (by omega) i hi hj).mono ?_
              rintro e w4 ⟨rfl, hL⟩
              have rp4 := HH.out.2.1.left hL
              have dp4 := hL.1
              have hl4 := dp4.lts
              have s4 := hL.2.2.2
              have b4 := HH.out.2.2.1.trans (hL.2.1 w.heap.size k2 k3)
              have m40 : w4.cell? ⟨M, 0, none⟩ = some (.slice A1 n c1) := rp4.m.cell 0
              have m41 : w4.cell? ⟨M, 1, none⟩ = some (.slice A2 n c2) := rp4.m.cell 1
              have RT := Lib.hid (rTake_at A1 c1 A2 c2 T rp4.r2 (by omega) i hi hj)
              have hMl := rp4.m.lt
              clear hL hi hj
              go_wp2_with fail
              refine RT.out.mono ?_
              rintro e w6 ⟨A7, c7, rfl, hr62, hc7, hlo7, hb6⟩
              have hMw := rp4.m.below hb6 rp4.m.lt
              have s6 := hb6.size
              have hlw := (dp4.below hb6 hl4.1 hl4.2.1 hl4.2.2).lts
              have hbW := bto0 b4 hb6
              have hbx := hbW.alloc (by omega) (.cells #[.slice A1 n c1, .slice A7 n c7] 31)
              have mx := hMw.alloc (.cells #[.slice A1 n c1, .slice A7 n c7] 31)
              have zx : (w6.alloc (.cells #[.slice A1 n c1, .slice A7 n c7] 31)).heap.size = w6.heap.size + 1 := by simp
              have rpx := RP.stored (B := w.heap.size) (gb := gb) (gt := gt) mx ((((rp4.r1.below hb6).more hb6.size).alloc (Nat.le_refl _) (.cells #[.slice A1 n c1, .slice A7 n c7] 31)).more (by omega)) ((hr62.alloc (Nat.le_refl _) (.cells #[.slice A1 n c1, .slice A7 n c7] 31)).more (by omega)) rp4.c1 hc7 rp4.f1 (fun ad h => by have := hlo7 ad h; exact ⟨by omega, by omega, by omega⟩) hM HH.out.2.1.o1 HH.out.2.1.o2
              have dpx := (((dp4.below hb6 hl4.1 hl4.2.1 hl4.2.2).below (ball (Below.refl _ _) (.cells #[.slice A1 n c1, .slice A7 n c7] 31)) hlw.1 hlw.2.1 hlw.2.2).store (p := ⟨M, 0, none⟩) hMg.1 hMg.2.1 hMg.2.2 (.slice A1 n c1)).store (p := ⟨M, 1, none⟩) hMg.1 hMg.2.1 hMg.2.2 (.slice A7 n c7)
              have bwx := (hbx.setCell (show w.heap.size ≤ (⟨M, 0, none⟩ : Addr).block from hM) (.slice A1 n c1)).setCell (show w.heap.size ≤ (⟨M, 1, none⟩ : Addr).block from hM) (.slice A7 n c7)
              have xc0 : (w6.alloc (.cells #[.slice A1 n c1, .slice A7 n c7] 31)).cell? ⟨M, 0, none⟩ = some _ := mx.cell 0
              have xc1 : (w6.alloc (.cells #[.slice A1 n c1, .slice A7 n c7] 31)).cell? ⟨M, 1, none⟩ = some _ := mx.cell 1
              have xf0 := mx.frozen 0
              have xf1 := mx.frozen 1
              have HE := Lib.hid (And.intro rpx (And.intro dpx bwx))
              clear rpx dpx bwx hbx mx
              go_wp2
              go_roundw
              case rel => exact ⟨k + 1, g, gb, gt, ps, (T.set i true), _, _, _, _, rfl, by go_num, by omega, HE.out.2.1, HE.out.1, k1, k2, k3, HE.out.2.2⟩
              case measure => simp [intOf]; omega
            · have hj' : ∀ j : Nat, j < n → T[j]? = some true := by rw [← HH.out.1.hT]; exact hj
              refine (take_fullDP HH.out.1 (by omega) hj').mono ?_
              rintro e w4 ⟨rfl, rfl⟩
              have rp4 := HH.out.2.1
              have dp4 := HH.out.1
              have hl4 := dp4.lts
              have m40 : WA.cell? ⟨M, 0, none⟩ = some (.slice A1 n c1) := rp4.m.cell 0
              have m41 : WA.cell? ⟨M, 1, none⟩ = some (.slice A2 n c2) := rp4.m.cell 1
              have RT := Lib.hid (rTake_full A1 c1 A2 c2 T rp4.r2 (by omega) hj')
              have hMl := rp4.m.lt
              clear hj hj'
              go_wp2_with fail
              refine RT.out.mono ?_
              rintro e w6 ⟨rfl, hb6⟩
              have hMw := rp4.m.below hb6 rp4.m.lt
              have s6 := hb6.size
              have hlw := (dp4.below hb6 hl4.1 hl4.2.1 hl4.2.2).lts
              have hbW := bto0 HH.out.2.2.1 hb6
              have hbx := hbW.alloc (by omega) (.cells #[.slice A1 n c1, .slice A2 n c2] 31)
              have mx := hMw.alloc (.cells #[.slice A1 n c1, .slice A2 n c2] 31)
              have zx : (w6.alloc (.cells #[.slice A1 n c1, .slice A2 n c2] 31)).heap.size = w6.heap.size + 1 := by simp
              have rpx := RP.stored (B := w.heap.size) (gb := gb) (gt := gt) mx ((((rp4.r1.below hb6).more hb6.size).alloc (Nat.le_refl _) (.cells #[.slice A1 n c1, .slice A2 n c2] 31)).more (by omega)) ((((rp4.r2.below hb6).more hb6.size).alloc (Nat.le_refl _) (.cells #[.slice A1 n c1, .slice A2 n c2] 31)).more (by omega)) rp4.c1 rp4.c2 rp4.f1 rp4.f2 hM HH.out.2.1.o1 HH.out.2.1.o2
              have dpx := (((dp4.below hb6 hl4.1 hl4.2.1 hl4.2.2).below (ball (Below.refl _ _) (.cells #[.slice A1 n c1, .slice A2 n c2] 31)) hlw.1 hlw.2.1 hlw.2.2).store (p := ⟨M, 0, none⟩) hMg.1 hMg.2.1 hMg.2.2 (.slice A1 n c1)).store (p := ⟨M, 1, none⟩) hMg.1 hMg.2.1 hMg.2.2 (.slice A2 n c2)
              have bwx := (hbx.setCell (show w.heap.size ≤ (⟨M, 0, none⟩ : Addr).block from hM) (.slice A1 n c1)).setCell (show w.heap.size ≤ (⟨M, 1, none⟩ : Addr).block from hM) (.slice A2 n c2)
              have xc0 : (w6.alloc (.cells #[.slice A1 n c1, .slice A2 n c2] 31)).cell? ⟨M, 0, none⟩ = some _ := mx.cell 0
              have xc1 : (w6.alloc (.cells #[.slice A1 n c1, .slice A2 n c2] 31)).cell? ⟨M, 1, none⟩ = some _ := mx.cell 1
              have xf0 := mx.frozen 0
              have xf1 := mx.frozen 1
              have HE := Lib.hid (And.intro rpx (And.intro dpx bwx))
              clear rpx dpx bwx hbx mx
              go_wp2
              go_roundw
              case rel => exact ⟨k + 1, g, gb, gt, ps, T, _, _, _, _, rfl, by go_num, by omega, HE.out.2.1, HE.out.1, k1, k2, k3, HE.out.2.2⟩
              case measure => simp [intOf]; omega
          · have z0 : (vk == 0) = false := by simpa using hk0
            have z1 : (vk == 1) = false := by simpa using hk1
            have z2 : (vk == 2) = false := by simpa using hk2
            obtain ⟨pg, hpg⟩ : ∃ pg, List.replicate 512 (1 : UInt8) = pg := ⟨_, rfl⟩
            have hpl : pg.length = 512 := by rw [← hpg, List.length_replicate]
            have HPG : Hid (∀ W, Calls Try.prog 19 #[.int .u8 1, .int .i64 512] W fun e w' => e = .returned (.slice (some ⟨W.heap.size, 0, none⟩) 512 512) ∧ Blk w' W.heap.size 5 (bV pg) ∧ Below W.heap.size W w') := by
              intro W
              rw [← hpg]
              exact pageNL 1 512 (by omega) W
            clear hpg hk0 hk1 hk2
            have hu := HH.out.2.1.under hn1
            go_wp2_with fail
            rw [HWA.out]
            refine (copy_any HH.out.1 (by omega) hn1).mono ?_
            rintro e w4 ⟨g', gb', gt', rfl, dn4, j1, j2, j3, hb4⟩
            have dp4 := HH.out.1.below hb4 hlA.1 hlA.2.1 hlA.2.2
            have rp4 := HH.out.2.1.below hb4
            have b4 := bto0 HH.out.2.2.1 hb4
            have hl4 := dp4.lts
            have hn4 := dn4.lts
            go_wp2_with fail
            refine (HPG.out _).mono ?_
            rintro e w5 ⟨rfl, hB5, hb5⟩
            have dp5 := dp4.below hb5 hl4.1 hl4.2.1 hl4.2.2
            have dn5 := dn4.below hb5 hn4.1 hn4.2.1 hn4.2.2
            have rp5 := rp4.below hb5
            have b5 := bto0 b4 hb5
            have DW := Lib.hid (writeDP dp5 0 (by omega) (by omega) ⟨w4.heap.size, 0, none⟩ 512 (w4.heap.size + 1) pg (reads_blk hB5 hpl))
            go_wp2_with fail
            refine DW.out.mono ?_
            rintro e w6 ⟨rfl, hL6⟩
            have hu1 := hu.1
            have hu2 := hu.2
            have hMl := HH.out.2.1.m.lt
            have dp6 := hL6.1
            have dn6 := dn5.beside hL6 ⟨by omega, by omega⟩ ⟨by omega, by omega⟩ ⟨by omega, by omega⟩
            have rp6 := rp5.left hL6
            have b6 := b5.trans (hL6.2.1 w.heap.size k2 k3)
            clear DW hL6 hB5 hb5 hb4 dp4 dn4 rp4 b4 dp5 dn5 rp5 b5
            rcases first_free (T.set 0 true) with ⟨i, hi, hj⟩ | hj
            · have TK := Lib.hid (takeDP dp6 (by omega) i hi hj)
              clear hi hj
              go_wp2_with fail
              refine TK.out.mono ?_
              rintro e w7 ⟨rfl, hL7⟩
              have dn7 := dn6.beside hL7 ⟨by omega, by omega⟩ ⟨by omega, by omega⟩ ⟨by omega, by omega⟩
              have rp7 := (rp6.left hL7).turn (gb' := gb') (gt' := gt') (fun ad h => by have := hu1 ad h; exact ⟨by omega, by omega⟩) (fun ad h => by have := hu2 ad h; exact ⟨by omega, by omega⟩) (by omega) (by omega)
              have b7 := b6.trans (hL7.2.1 w.heap.size k2 k3)
              have HE := Lib.hid (And.intro dn7 (And.intro rp7 b7))
              clear dn7 rp7 b7 hL7 TK dn6 rp6 dp6 b6
              go_wp2
              go_roundw
              case rel => exact ⟨k + 1, g', gb', gt', ps, T, _, _, _, _, rfl, by go_num, by omega, HE.out.1, HE.out.2.1, by omega, by omega, by omega, HE.out.2.2⟩
              case measure => simp [intOf]; omega
            · have TK := Lib.hid (take_fullDP dp6 (by omega) (by rw [← dp6.hT]; exact hj))
              clear hj
              go_wp2_with fail
              refine TK.out.mono ?_
              rintro e w7 ⟨rfl, rfl⟩
              have rp7 := rp6.turn (gb' := gb') (gt' := gt') (fun ad h => by have := hu1 ad h; exact ⟨by omega, by omega⟩) (fun ad h => by have := hu2 ad h; exact ⟨by omega, by omega⟩) (by omega) (by omega)
              have HE := Lib.hid (And.intro dn6 (And.intro rp7 b6))
              clear rp7 TK dn6 rp6 dp6 b6
              go_wp2
              go_roundw
              case rel => exact ⟨k + 1, g', gb', gt', ps, T, _, _, _, _, rfl, by go_num, by omega, HE.out.1, HE.out.2.1, by omega, by omega, by omega, HE.out.2.2⟩
              case measure => simp [intOf]; omega
    · have hl0 := hdp.lts
      have SX : Hid (∀ W, Below wr.heap.size wr W → W.cell? ⟨M, 0, none⟩ = some (.slice A1 n c1) ∧ W.cell? ⟨M, 1, none⟩ = some (.slice A2 n c2) ∧ Calls Try.prog 25 #[.pointer (some ⟨g, 0, none⟩), .agg #[.slice A1 n c1, .slice A2 n c2]] W (RetB W (.bool true))) := by
        intro W hW
        have R := hRP.below hW
        exact ⟨R.m.cell 0, R.m.cell 1, same_any (hdp.below hW hl0.1 hl0.2.1 hl0.2.2) ⟨A1, c1, A2, c2, rfl, R.r1, R.r2, R.c1, R.c2⟩ (by omega) hn1⟩
      have Hb := Lib.hid hb
      clear hdp hRP hb
      go_wp2_with (first
        | (go_at_call 15; refine (F.out _).mono ?_; rintro e w5 ⟨rfl, hb5⟩; have mm0 := (SX.out _ hb5).1; have mm1 := (SX.out _ hb5).2.1)
        | (go_at_call 25; refine (SX.out _ hb5).2.2.mono ?_; rintro e w6 ⟨rfl, hb6⟩))
      go_ret
      exact ⟨rfl, bto0 (bto0 Hb.out hb5) hb6⟩
set_option maxRecDepth 100000 in
theorem diskPlays_out (pg : Int) (A : Option Addr) (m cap : Nat) (w : World) (h : (20 < pg ∧ pg ≤ 4096) ∨ 100 < m) (hm : m ≤ 9223372036854775807) :
    Calls Try.prog 3 #[.int .i64 pg, .slice A m cap] w (RetB w (.bool true)) := by
  by_cases h1 : 20 < pg ∧ pg ≤ 4096
  · obtain ⟨h2, h3⟩ := h1
    clear h
    go_enter Try.func3, Try.ntmps3
    go_wp2_with (go_at_call 15; refine (dfixed_any _).mono ?_; rintro e w1 ⟨rfl, hb1⟩)
    all_goals (go_ret; exact ⟨rfl, hb1⟩)
  · have h4 : (100 : Int) < (m : Int) := by omega
    by_cases h5 : 20 < pg
    · have h6 : 4096 < pg := by omega
      clear h h1
      go_enter Try.func3, Try.ntmps3
      go_wp2_with (go_at_call 15; refine (dfixed_any _).mono ?_; rintro e w1 ⟨rfl, hb1⟩)
      all_goals (go_ret; exact ⟨rfl, hb1⟩)
    · have h6 : pg ≤ 20 := by omega
      clear h h1
      go_enter Try.func3, Try.ntmps3
      go_wp2_with (go_at_call 15; refine (dfixed_any _).mono ?_; rintro e w1 ⟨rfl, hb1⟩)
      all_goals (go_ret; exact ⟨rfl, hb1⟩)
set_option maxRecDepth 100000 in
theorem diskPlays_bad (pg : Int) (A : Option Addr) (m cap : Nat) (w : World) (h : pg < 1 ∨ 4096 < pg) (hm : m ≤ 100) :
    Calls Try.prog 3 #[.int .i64 pg, .slice A m cap] w (RetB w (.bool true)) := by
  have N := Lib.hid (new_bad pg h)
  have R := Lib.hid (rnew_bad pg h)
  have hmI : (m : Int) ≤ 100 := by omega
  by_cases h1 : pg < 1
  · have h2 : pg ≤ 20 := by omega
    clear h
    go_enter Try.func3, Try.ntmps3
    go_wp2_with (first
      | (go_at_call 16; refine (N.out _).mono ?_; rintro e w' ⟨rfl, rfl⟩)
      | (go_at_call 17; refine (R.out _).mono ?_; rintro e w2 ⟨rfl, hb2⟩)
      | (go_at_call 15; refine (dfixed_any _).mono ?_; rintro e w1 ⟨rfl, hb1⟩))
    go_ret
    exact ⟨rfl, bto0 (ball hb2 _) hb1⟩
  · have h2 : 4096 < pg := by omega
    have h3 : 20 < pg := by omega
    clear h h1
    go_enter Try.func3, Try.ntmps3
    go_wp2_with (first
      | (go_at_call 16; refine (N.out _).mono ?_; rintro e w' ⟨rfl, rfl⟩)
      | (go_at_call 17; refine (R.out _).mono ?_; rintro e w2 ⟨rfl, hb2⟩)
      | (go_at_call 15; refine (dfixed_any _).mono ?_; rintro e w1 ⟨rfl, hb1⟩))
    go_ret
    exact ⟨rfl, bto0 (ball hb2 _) hb1⟩
theorem diskPlays_any (pg : Int) (A : Option Addr) (m cap : Nat) (l : List Op4) (w : World) (hm : m ≤ maxLen) (hr : Reads w w.heap.size 4 A m (vO l)) (hok : ∀ v ∈ l, v.ok) :
    Calls Try.prog 3 #[.int .i64 pg, .slice A m cap] w (RetB w (.bool true)) := by
  unfold maxLen at hm
  by_cases h : (20 < pg ∧ pg ≤ 4096) ∨ 100 < m
  · exact diskPlays_out pg A m cap w h (by omega)
  · by_cases h2 : pg < 1 ∨ 4096 < pg
    · exact diskPlays_bad pg A m cap w h2 (by omega)
    · obtain ⟨n, rfl⟩ : ∃ n : Nat, pg = n := ⟨pg.toNat, by omega⟩
      exact diskPlays_in n A m cap l w (by omega) (by omega) (by omega) hr hok
end Go.Proofs.Ytojgcoojfbheoaa
