/-
  Pages of a tree: the law LeafGets: its walk.
-/
import Derived.Test.YtgdipljaddodhaaZu
import Derived.Deep.DeepCutAuto
set_option linter.unusedSimpArgs false
set_option linter.unusedVariables false
namespace Go.Proofs.Ytgdipljaddodhaa
open Go.RowKit

section
variable {A : Option Addr} {n c : Nat} {l : List En} {inner : Bool} {Aa : Option Addr} {na ca : Nat} {il : List Int} {Ab : Option Addr} {nb cb : Nat} {bl : List UInt8} {size : Int} {w : World}
set_option maxRecDepth 100000 in
set_option maxHeartbeats 4000000 in
theorem leafGets_great (hr : Reads w w.heap.size 3 A n (vE l)) (hok : ∀ e ∈ l, e.ok) (hn : n ≤ maxLen) (hna : na ≤ maxLen) (hnb : nb ≤ maxLen) (h : grE 0 l = true ∨ na ≠ nb ∨ 20 < na) :
    Calls Try.prog 6 #[.slice A n c, .bool inner, .slice Aa na ca, .slice Ab nb cb, .int .i64 size] w (RetB w (.bool true)) := by
  have G := fun b hg => greatE_of A n c l w hr hok hn b hg w (Below.refl _ _)
  unfold maxLen at hna hnb
  have na0 : (na : Int) ≤ 9223372036854775807 := by omega
  have nb0 : (nb : Int) ≤ 9223372036854775807 := by omega
  by_cases g1 : grE 0 l = true
  · have HG1 := Lib.hid (G true g1); clear G g1 h
    go_enter Try.func6, Try.ntmps6
    go_wp2_with fail
    refine HG1.out.mono ?_
    rintro e w1 ⟨rfl, rfl⟩
    go_wp2_with fail
    refine (fixed10_any _).mono ?_
    rintro e w2 ⟨rfl, hb2⟩
    go_wp2
    go_ret
    exact ⟨rfl, by (with_reducible repeat (first | exact Below.refl _ _ | exact hb2 | refine bto0 ?_ hb2 | refine bdr ?_ _ | refine Below.drew ?_ | refine ball ?_ _))⟩
  · have g1' : grE 0 l = false := by simpa using g1
    have HG1 := Lib.hid (G false g1')
    by_cases h2 : na = nb
    · have h3 : 20 < na := by
        rcases h with h | h | h
        · exact absurd h g1
        · exact absurd h2 h
        · exact h
      have e1 : ((na : Int) != (nb : Int)) = false := by simp; omega
      have e2 : ((na : Int) == (nb : Int)) = true := by simp; omega
      have e3 : (20 : Int) < (na : Int) := by omega
      have e4 : decide ((20 : Int) < (na : Int)) = true := by simp; omega
      have e5 : decide (20 < na) = true := by simp; omega
      clear G g1 g1' h h2 h3
      go_enter Try.func6, Try.ntmps6
      go_wp2_with fail
      refine HG1.out.mono ?_
      rintro e w1 ⟨rfl, rfl⟩
      go_wp2_with fail
      refine (fixed10_any _).mono ?_
      rintro e w2 ⟨rfl, hb2⟩
      go_wp2
      go_ret
      exact ⟨rfl, by (with_reducible repeat (first | exact Below.refl _ _ | exact hb2 | refine bto0 ?_ hb2 | refine bdr ?_ _ | refine Below.drew ?_ | refine ball ?_ _))⟩
    · have e1 : ((na : Int) != (nb : Int)) = true := by simp; omega
      have e2 : ((na : Int) == (nb : Int)) = false := by simp; omega
      have e3 : (na != nb) = true := by simpa using h2
      have e4 : (na == nb) = false := by simpa using h2
      clear G g1 g1' h h2
      go_enter Try.func6, Try.ntmps6
      go_wp2_with fail
      refine HG1.out.mono ?_
      rintro e w1 ⟨rfl, rfl⟩
      go_wp2_with fail
      refine (fixed10_any _).mono ?_
      rintro e w2 ⟨rfl, hb2⟩
      go_wp2
      go_ret
      exact ⟨rfl, by (with_reducible repeat (first | exact Below.refl _ _ | exact hb2 | refine bto0 ?_ hb2 | refine bdr ?_ _ | refine Below.drew ?_ | refine ball ?_ _))⟩

set_option maxRecDepth 100000 in
set_option maxHeartbeats 16000000 in
theorem leafGets_go (hr : Reads w w.heap.size 3 A n (vE l)) (hok : ∀ e ∈ l, e.ok) (hn : n ≤ maxLen) (hg : grE 0 l = false) (hab : na = nb) (h20 : na ≤ 20)
    (hra : Reads w w.heap.size 1 Aa na (il.map (Value.int .u16))) (hwa : ∀ x ∈ il, (Lit.int .u16 x).wf = true) (hrb : Reads w w.heap.size 1 Ab nb (bL bl)) (hs0 : -9223372036854775808 ≤ size ∧ size ≤ 9223372036854775807) :
    Calls Try.prog 6 #[.slice A n c, .bool inner, .slice Aa na ca, .slice Ab nb cb, .int .i64 size] w (RetB w (.bool true)) := by
  subst hab
  have hl : l.length = n := by have := hr.1; rw [vE_len] at this; omega
  have HG1 := Lib.hid (greatE_of A n c l w hr hok hn false hg w (Below.refl _ _))
  obtain ⟨hs, hl9, _⟩ := sumE_bd hg
  have hn9 : n ≤ 9000 := by omega
  have hnI : (n : Int) ≤ 9000 := by omega
  have h20I : (na : Int) ≤ 20 := by omega
  have d2 : decide ((20 : Int) < (na : Int)) = false := by simp; omega
  have MK := make32 (n + 1) (by omega) ((n : Int) + 1) (by omega)
  have PL := Lib.hid fun (W : World) (hb : Below w.heap.size w W) => putLeaf_some A n c l W ((hr.below hb).more hb.size) hok (by omega) hs
  have PI := Lib.hid fun (g : Nat) (W : World) (hb : Below w.heap.size w W) (h0 : Reads W W.heap.size 1 (some ⟨g, 0, none⟩) (n + 1) (vN (List.replicate (n + 1) 0))) => putInner_some (some ⟨g, 0, none⟩) (n + 1) (List.replicate (n + 1) 0) A n c l W ((hr.below hb).more hb.size) h0 (by intro x hx; have := List.eq_of_mem_replicate hx; omega) hok hn9 hs
  have HR := Lib.hid (And.intro hr (And.intro hra (And.intro hwa hrb)))
  have s0 := hs0.1
  have s1 := hs0.2
  clear hr hra hwa hrb hs0 hn hg hs hl9 hl hok
  go_enter Try.func6, Try.ntmps6
  go_wp2_with fail
  refine HG1.out.mono ?_
  rintro e w1 ⟨rfl, rfl⟩
  go_upto_if 43 with fail
  go_cut [11] (fun s11 wx => ∃ A1 k c1 L, s11 = .slice A1 k c1 ∧ Reads wx wx.heap.size 1 A1 k (bL L) ∧ k ≤ 512 ∧ Below w.heap.size w wx)
  case first =>
    cases inner
    · go_wp2_with fail
      refine (PL.out _ (Below.refl _ _)).mono ?_
      rintro e w1 ⟨A1, k, c1, L, q, rfl, hr1, hk, hkc, hb1⟩
      go_wp2_with fail
      go_meet
      case rel => exact ⟨A1, k, c1, L, rfl, hr1, hk, hb1⟩
    · go_wp2_with fail
      refine (PI.out _ _ (ball (Below.refl _ _) _) ((reads_new w (vN (List.replicate (n + 1) 0)).toArray 22 rfl (by rw [vN_len, List.length_replicate, Nat.mul_one])).more (by simp))).mono ?_
      rintro e w1 ⟨A1, k, c1, L, q, rfl, hr1, hk, hkc, hb1⟩
      go_wp2_with fail
      go_meet
      case rel => exact ⟨A1, k, c1, L, rfl, hr1, hk, bto0 (ball (Below.refl _ _) _) hb1⟩
  case rest =>
    clear MK PL PI
    obtain ⟨A1, k, c1, L0, rfl, hr1, hk, hb⟩ := hcut
    have hl0 := hr1.bytes_len
    have own0 := Own.empty wc (g := wc.heap.size) rfl
    have hz0 : wc.heap.size ≤ (wc.alloc (.cells #[] 5)).heap.size := by simp
    have HB := Lib.hid (And.intro (hr1.alloc (Nat.le_refl _) (.cells #[] 5)) (And.intro hl0 hb))
    clear hr1 hl0 hb
    go_wp2_with (first
      | (at_builtin; refine wpList_appR rfl _ _ rfl wc.heap.size _ [] L0 A1 k c1 wc.heap.size rfl own0 rfl HB.out.1 (by rw [HB.out.2.1]; simp; omega) hz0 ?_; intro v1 w1 own1 kp1; rw [List.nil_append] at own1; have hb1 := kp1.below wc.heap.size wc (Nat.le_refl _) (ball (Below.refl _ _) _))
      | (at_builtin; refine wpList_appZ rfl _ _ rfl wc.heap.size v1 L0 512 _ rfl own1 rfl rfl (by rw [HB.out.2.1]; omega) hb1.size ?_; intro v2 w2 own2 kp2; have hb2 := kp2.below wc.heap.size wc (Nat.le_refl _) hb1; obtain ⟨A3, c3, rfl, hc3⟩ := own2.form; obtain ⟨g, tl, rfl, hg, hblk, htl, hcm⟩ := own2.open_ (by simp); rw [List.length_append, List.length_replicate] at hc3 ⊢; have cut2 := fun W => run_slice_h W 34 (some ⟨g, 0, none⟩) (L0.length + 512) c3 Try.sliceB .i64 (512 : Int) (by omega) (by omega); simp only [Try.elemB, Try.sizeB, sliced, Result.andThen] at cut2))
    obtain ⟨L1, hL1⟩ : ∃ L1, (L0 ++ List.replicate 512 0).take 512 = L1 := ⟨_, rfl⟩
    have hL1l : L1.length = 512 := by rw [← hL1, List.length_take, List.length_append, List.length_replicate]; omega
    obtain ⟨tl2, htl2⟩ : ∃ tl2, bL ((L0 ++ List.replicate 512 0).drop 512) ++ tl = tl2 := ⟨_, rfl⟩
    have hblk2 : Blk w2 g 5 (bT L1 tl2) := by
      rw [← hL1, ← htl2, ← bT_app, List.take_append_drop]; exact hblk
    have htl3 : (bL L1 ++ tl2).length = c3 := by
      have hbb : ∀ X : List UInt8, bL (X.take 512) ++ bL (X.drop 512) = bL X := fun X => by
        have h : bL (X.take 512) ++ bL (X.drop 512) = bL (X.take 512 ++ X.drop 512) := by unfold bL; rw [List.map_append]
        rw [h, List.take_append_drop]
      rw [← htl, ← hL1, ← htl2, ← List.append_assoc, hbb]
    have hgw : w.heap.size ≤ g := Nat.le_trans HB.out.2.2.size hg
    have hc5 : 512 ≤ c3 := by omega
    have H1 := Lib.hid (And.intro hblk2 (And.intro hL1l (And.intro (bto0 HB.out.2.2 hb2) (And.intro htl3 hcm))))
    clear own1 own2 kp1 kp2 hb1 hb2 hblk htl hblk2 hL1 hL1l htl2 htl3 hcm own0 hz0 HB hg cut2 hc3
    go_loopw [65] (fun iv wr => ∃ (i : Nat) (L : List UInt8), iv = .int .i64 (i : Nat) ∧ i ≤ na ∧ Blk wr g 5 (bT L tl2) ∧ L.length = 512 ∧ Below w.heap.size w wr) (fun iv _ => na - (intOf iv).toNat)
    case atStart => exact ⟨0, L1, rfl, by omega, H1.out.1, H1.out.2.1, H1.out.2.2.1⟩
    case round =>
      obtain ⟨i, L, rfl, hi, hB, hL, hb⟩ := hrel
      have p0 : (0 : Int) ≤ (i : Int) := by omega
      by_cases hit : i < na
      · have p1 : (i : Int) < (na : Int) := by omega
        obtain ⟨ada, u, rfl, _, hu, ca1⟩ := (HR.out.2.1.below hb).at_ hit
        rw [List.getElem?_map] at hu
        obtain ⟨K, hK, rfl⟩ := Option.map_eq_some_iff.1 hu
        have hKw := Go.bounds_u16 (HR.out.2.2.1 K (List.mem_of_getElem? hK))
        obtain ⟨adb, y, rfl, _, hy, cb1⟩ := (HR.out.2.2.2.below hb).byte hit
        obtain ⟨j, hj⟩ : ∃ j : Nat, K % 512 = (j : Int) := ⟨(K % 512).toNat, by omega⟩
        have hj5 : j < 512 := by omega
        obtain ⟨x, hx⟩ := bT_at L tl2 j (by omega)
        have cx := (hB.cell j).trans hx
        have fx := hB.frozen j
        have wk : IntKind.i64.wrap K = K := IntWalk.i64_in _ (by omega)
        have tk : K.tmod 512 = (j : Int) := by rw [Int.tmod_eq_emod_of_nonneg hKw.1]; exact hj
        have wj : IntKind.i64.wrap (j : Int) = (j : Int) := IntWalk.i64_in _ (by omega)
        have j0 : (0 : Int) ≤ (j : Int) := by omega
        have j5 : (j : Int) < 512 := by omega
        have HX := Lib.hid (And.intro (xor_u8 x y) (And.intro hB (And.intro hL (And.intro hb hj5))))
        have k0 := hKw.1
        clear hK hKw hy hj hj5 hx hB hL hb
        go_wp2_with fail
        go_region
        rw [HX.out.1]
        have hB2 := HX.out.2.1.set_ j (.int .u8 (((x ^^^ y : UInt8).toNat : Nat) : Int))
        rw [bT_set _ _ _ _ (by rw [HX.out.2.2.1]; exact HX.out.2.2.2.2)] at hB2
        have HZ := Lib.hid (And.intro hB2 (HX.out.2.2.2.1.setCell (show w.heap.size ≤ (⟨g, j, none⟩ : Addr).block from hgw) (.int .u8 (((x ^^^ y : UInt8).toNat : Nat) : Int))))
        clear hB2
        go_wp2
        go_roundw
        case rel => exact ⟨i + 1, L.set j (x ^^^ y), by go_num, by omega, HZ.out.1.drew, by rw [List.length_set]; exact HX.out.2.2.1, HZ.out.2.drew⟩
        case measure => simp [intOf]; omega
      · obtain rfl : i = na := by omega
        have own := Own.shut (base := w.heap.size) (n := 512) (c := c3) hB (by have h := H1.out.2.2.2.1; rw [List.length_append, bL_len] at h ⊢; rw [hL, ← h, H1.out.2.1]) H1.out.2.2.2.2 hgw hL.symm
        have HB := Lib.hid (And.intro own (And.intro hL hb))
        clear hL hB hb own
        obtain ⟨ok, hok⟩ : ∃ ok, decide (0 ≤ size ∧ size < 600) = ok := ⟨_, rfl⟩
        have HO := Lib.hid hok
        clear hok
        go_upto_region 13 with fail
        go_cut [88] (fun s88 wx => s88 = .bool ok ∧ wx = wr)
        case first =>
          have ho := HO.out
          by_cases h0 : 0 ≤ size
          · have e0 : decide (0 ≤ size) = true := by simp [h0]
            by_cases h6 : size < 600
            · have e1 : decide (size < 600) = true := by simp [h6]
              obtain rfl : ok = true := by rw [← ho]; simp [h0, h6]
              clear ho
              go_wp2_with fail
              go_meet
              case rel => exact ⟨rfl, rfl⟩
            · have e1 : decide (size < 600) = false := by simp [h6]
              obtain rfl : ok = false := by rw [← ho]; simp [h6]
              clear ho
              go_wp2_with fail
              go_meet
              case rel => exact ⟨rfl, rfl⟩
          · have e0 : decide (0 ≤ size) = false := by simp [h0]
            obtain rfl : ok = false := by rw [← ho]; simp [h0]
            clear ho
            go_wp2_with fail
            go_meet
            case rel => exact ⟨rfl, rfl⟩
        case rest =>
          obtain ⟨rfl, rfl⟩ := hcut
          go_upto_if 88 with fail
          go_cut [11] (fun s11 wx => ∃ A n c L, s11 = .slice A n c ∧ Reads wx wx.heap.size 1 A n (bL L) ∧ n ≤ 600 ∧ n ≤ c ∧ Below w.heap.size w wx)
          case first =>
            cases ok
            · go_wp2_with fail
              go_meet
              case rel => exact ⟨_, 512, c3, L, rfl, HB.out.1.reads.1, by omega, hc5, HB.out.2.2⟩
            · have hs : 0 ≤ size ∧ size < 600 := of_decide_eq_true HO.out
              have s0 := hs.1
              have s1 := hs.2
              obtain ⟨S, hS⟩ : ∃ S : Nat, size = S := ⟨size.toNat, by omega⟩
              have hz := HB.out.2.2.size
              have hS6 : S ≤ 600 := by omega
              have HSS := Lib.hid hS
              clear hs hS
              go_wp2_with (at_builtin; refine wpList_appZ rfl _ _ rfl w.heap.size _ L 88 _ rfl HB.out.1 rfl rfl (by rw [HB.out.2.1]; decide) hz ?_; intro v6 w6 own6 kp6; obtain ⟨A6, c6, rfl, hc6⟩ := own6.form; rw [List.length_append, HB.out.2.1, List.length_replicate] at own6 hc6 ⊢; obtain ⟨A7, sl7, hr7⟩ := cutb_hi (A := A6) (n := 600) (c := c6) .i64 S size HSS.out (by omega) hc6)
              go_meet
              case rel => exact ⟨A7, S, c6, _, rfl, hr7 _ _ _ own6.reads.1, by omega, by omega, kp6.below _ _ (Nat.le_refl _) HB.out.2.2⟩
          case rest =>
            clear HB HO H1
            obtain ⟨Az, nz, cz, L, rfl, hrz, hn6, hnc, hb⟩ := hcut
            have cvz := conv_reads hrz 34 5 9 Try.underlying34 Try.underlying5 Try.underlying9 cz
            have HZ := Lib.hid (And.intro hrz hb)
            have T := tri Az nz cz L wc hrz hn6 hnc
            clear hrz hn6 hnc hb
            rcases T with ⟨PG, GL, GI⟩ | ⟨N, es, PG, GL, GI, i1, i2, i3, i4, i5⟩ | ⟨k0, ps, PG, GL, GI, i1, i2, i3, i4, i5, i6⟩
            · have HPG := Lib.hid PG
              have HGL := Lib.hid GL
              have HGI := Lib.hid GI
              clear PG GL GI
              go_wp2_with fail
              refine (HPG.out _ (Below.refl _ _)).mono ?_
              rintro e w1 ⟨v3, v4, rfl, hb1⟩
              clear cvz
              go_wp2_with fail
              refine (HGL.out _ (by (with_reducible repeat (first | exact Below.refl _ _ | exact hb1 | refine bto0 ?_ hb1 | refine bdr ?_ _ | refine Below.drew ?_ | refine ball ?_ _)))).mono ?_
              rintro e w2 ⟨rfl, hb2⟩
              unfold noLeaf
              go_wp2_with fail
              refine (HGI.out _ (by (with_reducible repeat (first | exact Below.refl _ _ | exact hb2 | exact hb1 | refine bto0 ?_ hb2 | refine bto0 ?_ hb1 | refine bdr ?_ _ | refine Below.drew ?_ | refine ball ?_ _)))).mono ?_
              rintro e w3 ⟨rfl, hb3⟩
              unfold noInner
              go_wp2_with fail
              refine (fixed10_any _).mono ?_
              rintro e w4 ⟨rfl, hb4⟩
              go_wp2
              go_ret
              exact ⟨rfl, bto0 HZ.out.2 (by (with_reducible repeat (first | exact Below.refl _ _ | exact hb4 | exact hb3 | exact hb2 | exact hb1 | refine bto0 ?_ hb4 | refine bto0 ?_ hb3 | refine bto0 ?_ hb2 | refine bto0 ?_ hb1 | refine bdr ?_ _ | refine Below.drew ?_ | refine ball ?_ _)))⟩
            · have HPG := Lib.hid PG
              have HGL := Lib.hid GL
              have HGI := Lib.hid GI
              have PLF := Lib.hid fun (A' : Option Addr) (c' : Nat) (W : World) (h : Reads W W.heap.size 3 A' es.length (vE es)) => putLeaf_ok N i5 A' es.length c' es W h i4 i3 i2
              rw [i1] at PLF
              have SM := Lib.hid fun (A1 : Option Addr) (c1 : Nat) (A2 : Option Addr) (c2 : Nat) (W : World) (h1 : Reads W W.heap.size 3 A1 es.length (vE es)) (h2 : Reads W W.heap.size 3 A2 es.length (vE es)) => sameE_any A1 es.length c1 A2 c2 es W h1 h2 (by have := sumE_eq es; omega)
              clear PG GL GI i1 i2 i3 i4 i5
              go_wp2_with fail
              refine (HPG.out _ (Below.refl _ _)).mono ?_
              rintro e w1 ⟨A1, c1, A2, c2, rfl, hrc1, hre1, hb1⟩
              clear cvz
              go_wp2_with fail
              refine (HGL.out _ (by (with_reducible repeat (first | exact Below.refl _ _ | exact hb1 | refine bto0 ?_ hb1 | refine bdr ?_ _ | refine Below.drew ?_ | refine ball ?_ _)))).mono ?_
              rintro e w2 ⟨A3, c3', rfl, hc3, own2, hb2⟩
              have hrx2 := Reads.of_own own2
              clear own2
              go_wp2_with fail
              refine (HGI.out _ (by (with_reducible repeat (first | exact Below.refl _ _ | exact hb2 | exact hb1 | refine bto0 ?_ hb2 | refine bto0 ?_ hb1 | refine bdr ?_ _ | refine Below.drew ?_ | refine ball ?_ _)))).mono ?_
              rintro e w3 ⟨rfl, hb3⟩
              have hrx3 := (hrx2.below hb3).more hb3.size
              unfold noInner
              go_wp2_with fail
              refine (PLF.out _ _ _ hrx3).mono ?_
              rintro e w4 ⟨v4, rfl, own4, hb4⟩
              obtain ⟨A4, c4, rfl, hc4⟩ := own4.form
              have hrg4 := own4.reads.1
              clear own4
              go_wp2_with fail
              refine (fixed10_any _).mono ?_
              rintro e w5 ⟨rfl, hb5⟩
              have hrx5 := (((hrx3.below hb4).more hb4.size).below hb5).more hb5.size
              have hre5 := (hre1.below (show Below w1.heap.size w1 w5 by (with_reducible repeat (first | exact Below.refl _ _ | exact hb5 | exact hb4 | exact hb3 | exact hb2 | refine bto0 ?_ hb5 | refine bto0 ?_ hb4 | refine bto0 ?_ hb3 | refine bto0 ?_ hb2 | refine bdr ?_ _ | refine Below.drew ?_ | refine ball ?_ _)))).more (show Below w1.heap.size w1 w5 by (with_reducible repeat (first | exact Below.refl _ _ | exact hb5 | exact hb4 | exact hb3 | exact hb2 | refine bto0 ?_ hb5 | refine bto0 ?_ hb4 | refine bto0 ?_ hb3 | refine bto0 ?_ hb2 | refine bdr ?_ _ | refine Below.drew ?_ | refine ball ?_ _))).size
              go_wp2_with fail
              refine (SM.out _ _ _ _ _ hrx5 hre5).mono ?_
              rintro e w6 ⟨rfl, hb6⟩
              have hrg6 := (hrg4.below hb5).below (hb6.mono hb5.size)
              have hall : Below wc.heap.size wc w6 := by (with_reducible repeat (first | exact Below.refl _ _ | exact hb6 | exact hb5 | exact hb4 | exact hb3 | exact hb2 | exact hb1 | refine bto0 ?_ hb6 | refine bto0 ?_ hb5 | refine bto0 ?_ hb4 | refine bto0 ?_ hb3 | refine bto0 ?_ hb2 | refine bto0 ?_ hb1 | refine bdr ?_ _ | refine Below.drew ?_ | refine ball ?_ _))
              have hrb6 := HZ.out.1.below hall
              have cv1 := conv_reads hrg6 34 5 9 Try.underlying34 Try.underlying5 Try.underlying9 c4
              have cv2 := conv_reads hrb6 34 5 9 Try.underlying34 Try.underlying5 Try.underlying9 cz
              go_wp2
              go_ret
              exact ⟨rfl, bto0 HZ.out.2 hall⟩
            · have HPG := Lib.hid PG
              have HGL := Lib.hid GL
              have HGI := Lib.hid GI
              have hfl : (ps.map Prod.fst).length = ps.length := List.length_map _
              have hsl : (ps.map Prod.snd).length = ps.length := List.length_map _
              have hps : ps.length ≤ 125 := by omega
              have PIF : ∀ (A1 : Option Addr) (c1 : Nat) (A2 : Option Addr) (c2 : Nat) (W : World), Reads W W.heap.size 1 A1 (ps.length + 1) (vN (k0 :: ps.map Prod.snd)) → Reads W W.heap.size 3 A2 ps.length (vE (ps.map Prod.fst)) → Calls Try.prog 21 #[.slice A1 (ps.length + 1) c1, .slice A2 ps.length c2] W (RetLf W L) := fun A1 c1 A2 c2 W h1 h2 => by
                have := putInner_ok A1 c1 A2 ps.length c2 (ps.map Prod.fst) k0 (ps.map Prod.snd) W h2 h1 (by intro e he; obtain ⟨p, hp, rfl⟩ := List.mem_map.1 he; exact (i4 p hp).1) (by intro x hx; rcases List.mem_cons.1 hx with rfl | hx; exact i5; obtain ⟨p, hp, rfl⟩ := List.mem_map.1 hx; exact (i4 p hp).2) i6 i3 i2
                rw [zip_maps, i1] at this
                exact this
              have HPF := Lib.hid PIF
              have SM := Lib.hid fun (A1 : Option Addr) (c1 : Nat) (A2 : Option Addr) (c2 : Nat) (W : World) (h1 : Reads W W.heap.size 3 A1 ps.length (vE (ps.map Prod.fst))) (h2 : Reads W W.heap.size 3 A2 ps.length (vE (ps.map Prod.fst))) => sameE_any A1 ps.length c1 A2 c2 (ps.map Prod.fst) W h1 h2 (by omega)
              have SN := Lib.hid fun (A1 : Option Addr) (c1 : Nat) (A2 : Option Addr) (c2 : Nat) (W : World) (h1 : Reads W W.heap.size 1 A1 (ps.length + 1) (vN (k0 :: ps.map Prod.snd))) (h2 : Reads W W.heap.size 1 A2 (ps.length + 1) (vN (k0 :: ps.map Prod.snd))) => same_any A1 (ps.length + 1) c1 A2 c2 (k0 :: ps.map Prod.snd) W h1 h2 (by omega)
              have HFL := Lib.hid (And.intro hfl hsl)
              clear PG GL GI i1 i2 i3 i4 i5 i6 PIF hfl hsl
              go_wp2_with fail
              refine (HPG.out _ (Below.refl _ _)).mono ?_
              rintro e w1 ⟨A1, c1, A2, c2, rfl, hrc1, hre1, hb1⟩
              rw [List.length_cons, HFL.out.2] at hrc1 ⊢
              rw [HFL.out.1] at hre1 ⊢
              clear cvz
              go_wp2_with fail
              refine (HGL.out _ (by (with_reducible repeat (first | exact Below.refl _ _ | exact hb1 | refine bto0 ?_ hb1 | refine bdr ?_ _ | refine Below.drew ?_ | refine ball ?_ _)))).mono ?_
              rintro e w2 ⟨rfl, hb2⟩
              unfold noLeaf
              go_wp2_with fail
              refine (HGI.out _ (by (with_reducible repeat (first | exact Below.refl _ _ | exact hb2 | exact hb1 | refine bto0 ?_ hb2 | refine bto0 ?_ hb1 | refine bdr ?_ _ | refine Below.drew ?_ | refine ball ?_ _)))).mono ?_
              rintro e w3 ⟨A3, c3', A4, c4, rfl, hc3, hc4, own3, own3', hb3⟩
              have hrk3 := Reads.of_own own3
              have hrx3 := Reads.of_own own3'
              clear own3 own3'
              go_wp2_with fail
              refine (HPF.out _ _ _ _ _ hrk3 hrx3).mono ?_
              rintro e w4 ⟨v4, rfl, own4, hb4⟩
              obtain ⟨A5, c5, rfl, hc5'⟩ := own4.form
              have hrg4 := own4.reads.1
              clear own4
              go_wp2_with fail
              refine (fixed10_any _).mono ?_
              rintro e w5 ⟨rfl, hb5⟩
              have h15 : Below w1.heap.size w1 w5 := by (with_reducible repeat (first | exact Below.refl _ _ | exact hb5 | exact hb4 | exact hb3 | exact hb2 | refine bto0 ?_ hb5 | refine bto0 ?_ hb4 | refine bto0 ?_ hb3 | refine bto0 ?_ hb2 | refine bdr ?_ _ | refine Below.drew ?_ | refine ball ?_ _))
              have h35 : Below w3.heap.size w3 w5 := by (with_reducible repeat (first | exact Below.refl _ _ | exact hb5 | exact hb4 | refine bto0 ?_ hb5 | refine bto0 ?_ hb4 | refine bdr ?_ _ | refine Below.drew ?_ | refine ball ?_ _))
              go_wp2_with fail
              refine (SN.out _ _ _ _ _ ((hrk3.below h35).more h35.size) ((hrc1.below h15).more h15.size)).mono ?_
              rintro e w6 ⟨rfl, hb6⟩
              have h16 := bto0 h15 hb6
              have h36 := bto0 h35 hb6
              go_wp2_with fail
              refine (SM.out _ _ _ _ _ ((hrx3.below h36).more h36.size) ((hre1.below h16).more h16.size)).mono ?_
              rintro e w7 ⟨rfl, hb7⟩
              have h47 : Below w4.heap.size w4 w7 := by (with_reducible repeat (first | exact Below.refl _ _ | exact hb7 | exact hb6 | exact hb5 | refine bto0 ?_ hb7 | refine bto0 ?_ hb6 | refine bto0 ?_ hb5 | refine bdr ?_ _ | refine Below.drew ?_ | refine ball ?_ _))
              have hrg6 := hrg4.below h47
              have hall : Below wc.heap.size wc w7 := by (with_reducible repeat (first | exact Below.refl _ _ | exact hb7 | exact hb6 | exact hb5 | exact hb4 | exact hb3 | exact hb2 | exact hb1 | refine bto0 ?_ hb7 | refine bto0 ?_ hb6 | refine bto0 ?_ hb5 | refine bto0 ?_ hb4 | refine bto0 ?_ hb3 | refine bto0 ?_ hb2 | refine bto0 ?_ hb1 | refine bdr ?_ _ | refine Below.drew ?_ | refine ball ?_ _))
              have hrb6 := HZ.out.1.below hall
              have cv1 := conv_reads hrg6 34 5 9 Try.underlying34 Try.underlying5 Try.underlying9 c5
              have cv2 := conv_reads hrb6 34 5 9 Try.underlying34 Try.underlying5 Try.underlying9 cz
              go_wp2
              go_ret
              exact ⟨rfl, bto0 HZ.out.2 hall⟩
theorem leafGets_any (hr : Reads w w.heap.size 3 A n (vE l)) (hok : ∀ e ∈ l, e.ok) (hn : n ≤ maxLen) (hna : na ≤ maxLen) (hnb : nb ≤ maxLen)
    (hra : Reads w w.heap.size 1 Aa na (il.map (Value.int .u16))) (hwa : ∀ x ∈ il, (Lit.int .u16 x).wf = true) (bi : List Int) (hwb : ∀ x ∈ bi, (Lit.int .u8 x).wf = true) (hrb : Reads w w.heap.size 1 Ab nb (bi.map (Value.int .u8))) (hs0 : -9223372036854775808 ≤ size ∧ size ≤ 9223372036854775807) :
    Calls Try.prog 6 #[.slice A n c, .bool inner, .slice Aa na ca, .slice Ab nb cb, .int .i64 size] w (RetB w (.bool true)) := by
  obtain ⟨bl, hbl, _⟩ := ints_bytes bi hwb
  rw [hbl] at hrb
  by_cases h : grE 0 l = true ∨ na ≠ nb ∨ 20 < na
  · exact leafGets_great hr hok hn hna hnb h
  · have h1 : grE 0 l = false := by
      cases hh : grE 0 l with
      | false => rfl
      | true => exact absurd (.inl hh) h
    have h2 : na = nb := by
      rcases Nat.decEq na nb with hh | hh
      · exact absurd (.inr (.inl hh)) h
      · exact hh
    have h3 : na ≤ 20 := by
      rcases Nat.lt_or_ge 20 na with hh | hh
      · exact absurd (.inr (.inr hh)) h
      · exact hh
    exact leafGets_go hr hok hn h1 h2 h3 hra hwa hrb hs0
end
end Go.Proofs.Ytgdipljaddodhaa
