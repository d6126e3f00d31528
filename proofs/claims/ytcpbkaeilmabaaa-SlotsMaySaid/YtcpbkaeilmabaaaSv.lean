/-
  Slots of a heap page: the law SlotsMay.
-/
import Derived.Test.YtcpbkaeilmabaaaSu
import Derived.Test.YtcpbkaeilmabaaaOz
import Derived.Deep.DeepCutAuto
namespace Go.Proofs.Ytcpbkaeilmabaaa
set_option linter.unusedSimpArgs false
set_option linter.unusedVariables false
open Go.RowKit

theorem xor_u8 (x b : UInt8) : bits .xor .u8 (x.toNat : Int) (b.toNat : Int) = (((x ^^^ b : UInt8).toNat : Nat) : Int) := by
  have hb := b.toNat_lt
  have hx := x.toNat_lt
  show IntKind.u8.wrap ((BitVec.ofInt 8 (x.toNat : Int) ^^^ BitVec.ofInt 8 (b.toNat : Int)).toNat : Int) = _
  have e1 : (BitVec.ofInt 8 (x.toNat : Int)).toNat = x.toNat := by rw [BitVec.toNat_ofInt]; omega
  have e2 : (BitVec.ofInt 8 (b.toNat : Int)).toNat = b.toNat := by rw [BitVec.toNat_ofInt]; omega
  rw [BitVec.toNat_xor, e1, e2]
  have h2 := (x ^^^ b).toNat_lt
  rw [UInt8.toNat_xor] at h2 ⊢
  simp [IntKind.wrap, IntKind.bits, IntKind.signed]; omega
/-- The records of a page fill it from its end to where the last one begins. -/
theorem recs_tot (l : List UInt8) (hl : l.length = 512) : ∀ m e, endK l m = some e → tot ((List.range m).map (recK l)) = 512 - e
  | 0, e, h => by injection h with h; subst h; rfl
  | m + 1, e, h => by
    obtain ⟨f, f1, f2, f3, f4, f5⟩ := endK_some h (k := m) (by omega)
    rw [h] at f5
    injection f5 with f5
    rw [List.range_succ, List.map_append, List.map_singleton, tot_snoc, recs_tot l hl m f f1, recK_len hl h (by omega)]
    omega
theorem page_room {l : List UInt8} (h : isPage l = true) : pRoom l = 508 - (8 + 4 * hdC l + tot (recs l)) := by
  obtain ⟨e1, e2, e3, e4, e5⟩ := page_end h
  have ht := recs_tot l e5 _ _ e1
  unfold pRoom recs
  rw [if_pos h, ht]; omega
theorem page_tot {l : List UInt8} (h : isPage l = true) : tot (recs l) ≤ 512 := by
  obtain ⟨e1, e2, e3, e4, e5⟩ := page_end h
  have ht := recs_tot l e5 _ _ e1
  unfold recs
  rw [ht]; omega
/-- What Add leaves of a page, whatever comes of it. -/
def AddAny (w : World) (l : List UInt8) (e : Ending) (w' : World) : Prop :=
  (∃ q : Int, q ≠ 0 ∧ e = .returned (.tuple #[.slice none 0 0, .int .i64 0, .int .i64 q]) ∧ Below w.heap.size w w') ∨
  ∃ l' A c m, l'.length = 512 ∧ e = .returned (.tuple #[.slice A 512 c, .int .i64 (m : Nat), .int .i64 0]) ∧ Own w' w.heap.size (.slice A 512 c) l' ∧ 512 ≤ c ∧ Below w.heap.size w w'
theorem add_any {w : World} {A A2 : Option Addr} {c B n2 c2 B2 : Nat} {l r : List UInt8} (hl : l.length = 512) (hr : Reads w B 1 A 512 (bL l)) (hB : B ≤ w.heap.size) (hc : 512 ≤ c) (hr2 : Reads w B2 1 A2 n2 (bL r)) (hB2 : B2 ≤ w.heap.size) :
    Calls Try.prog 49 #[.slice A 512 c, .slice A2 n2 c2] w (AddAny w l) := by
  rcases hp : isPage l with _ | _
  · exact (add_no hp hr hB (by omega) hc).mono fun e w' ⟨h1, h2⟩ => .inl ⟨2, by decide, h1, h2⟩
  · rcases Nat.eq_zero_or_pos n2 with h0 | h0
    · subst h0
      exact (add_arg hp hr hB (by omega) hc).mono fun e w' ⟨h1, h2⟩ => .inl ⟨1, by decide, h1, h2⟩
    · by_cases hf : pE l - (12 + 4 * hdC l) < n2
      · exact (add_full hp hr hB (by omega) hc h0 hf).mono fun e w' ⟨h1, h2⟩ => .inl ⟨7, by decide, h1, h2⟩
      · have hE := (page_end hp).2.2.2.1
        have hl2 := hr2.bytes_len
        exact (add_ok hp hr hB (by omega) hc hr2 hB2 h0 (by omega)).mono fun e w' ⟨A', c', h1, h2, h3, h4⟩ =>
          .inr ⟨_, A', c', hdC l, by rw [addL_len _ _ _ _ (by omega) (by omega)]; exact hl, h1, h2, h3, h4⟩
set_option maxRecDepth 100000 in
set_option maxHeartbeats 4000000 in
theorem lawMay_any (A : Option Addr) (n c : Nat) (rows : List Rw) (Aa : Option Addr) (na ca : Nat) (la : List Int) (Ab : Option Addr) (nb cb : Nat) (lb : List UInt8) (count size : Int) (w : World) (hr : RRs w w.heap.size A n rows) (hn : n ≤ maxLen)
    (hra : Reads w w.heap.size 1 Aa na (la.map (Value.int .u16))) (hna : na ≤ maxLen) (hwa : ∀ x ∈ la, (Lit.int .u16 x).wf = true) (hrb : Reads w w.heap.size 1 Ab nb (bL lb)) (hnb : nb ≤ maxLen) (hc0 : 0 ≤ count ∧ count ≤ 65535) (hs0 : -9223372036854775808 ≤ size ∧ size ≤ 9223372036854775807) :
    Calls Try.prog 14 #[.slice A n c, .slice Aa na ca, .slice Ab nb cb, .int .u16 count, .int .i64 size] w (RetB w (.bool true)) := by
  have F := Lib.hid sfixed_any
  unfold maxLen at hn hna hnb
  by_cases hg : 60 < n ∨ 20 < na ∨ na ≠ nb
  · clear hr hra hrb hwa hc0 hs0
    by_cases h1 : 60 < n
    · have h1I : (60 : Int) < (n : Int) := by omega
      clear hg h1
      go_enter Try.func14, Try.ntmps14
      go_wp2_with (go_at_call 47; refine (F.out _).mono ?_; rintro e w1 ⟨rfl, hb1⟩)
      go_ret
      exact ⟨rfl, hb1⟩
    · have h1I : (n : Int) ≤ 60 := by omega
      by_cases h2 : 20 < na
      · have h2I : (20 : Int) < (na : Int) := by omega
        clear hg h1 h2
        go_enter Try.func14, Try.ntmps14
        go_wp2_with (go_at_call 47; refine (F.out _).mono ?_; rintro e w1 ⟨rfl, hb1⟩)
        go_ret
        exact ⟨rfl, hb1⟩
      · have h2I : (na : Int) ≤ 20 := by omega
        have h3I : ((na : Int) != (nb : Int)) = true := by simp; omega
        clear hg h1 h2
        go_enter Try.func14, Try.ntmps14
        go_wp2_with (go_at_call 47; refine (F.out _).mono ?_; rintro e w1 ⟨rfl, hb1⟩)
        go_ret
        exact ⟨rfl, hb1⟩
  have h1I : (n : Int) ≤ 60 := by omega
  have h2I : (na : Int) ≤ 20 := by omega
  obtain rfl : na = nb := by omega
  have d1 : decide ((60 : Int) < (n : Int)) = false := by simp; omega
  have d2 : decide ((20 : Int) < (na : Int)) = false := by simp; omega
  have h60 : n ≤ 60 := by omega
  have h20 : na ≤ 20 := by omega
  have NW := Lib.hid (snew_any 7 (by omega) w)
  rw [show ((7 : Nat) : Int) = 7 from rfl] at NW
  have HR := Lib.hid (And.intro hr (And.intro hra (And.intro hwa hrb)))
  have HC := Lib.hid (And.intro hc0 hs0)
  clear hr hra hwa hrb hc0 hs0 hn hna hnb hg
  go_enter Try.func14, Try.ntmps14
  go_wp2_with fail
  refine NW.out.mono ?_
  rintro e w1 ⟨A1, c1, rfl, own1, hc1, hb1⟩
  have H0 := Lib.hid (And.intro own1 (And.intro hb1 (layL_len (next := 7) Fits.nil)))
  clear own1 hb1 NW
  go_wp2_with fail
  go_loopw [11, 49] (fun u11 u49 wr => ∃ (k A1 c1 : _) (L : List UInt8), u11 = .slice A1 512 c1 ∧ u49 = .int .i64 (k : Nat) ∧ k ≤ n ∧ Own wr w.heap.size (.slice A1 512 c1) L ∧ L.length = 512 ∧ 512 ≤ c1 ∧ Below w.heap.size w wr) (fun _ u49 _ => n - (intOf u49).toNat)
  case atStart => exact ⟨0, A1, c1, _, rfl, rfl, by omega, H0.out.1, H0.out.2.2, hc1, H0.out.2.1⟩
  case round =>
    clear H0 hc1
    obtain ⟨k, A1, c1, L, rfl, rfl, hk, own, hL, hc1, hb⟩ := hrel
    have q0 : (0 : Int) ≤ (k : Int) := by omega
    by_cases hlt : k < n
    · have q1 : (k : Int) < (n : Int) := by omega
      obtain ⟨ad, ⟨Ar, cr, l⟩, rfl, hab, hk', d1, hcap, hcm, hrr⟩ := (HR.out.1.below hb).row hlt
      dsimp only at d1 hcap hcm hrr
      have AD := Lib.hid (add_any (c2 := cr) hL own.reads.1 (Nat.le_refl _) hc1 hrr hb.size)
      obtain ⟨N, hN⟩ : ∃ N, l.length = N := ⟨_, rfl⟩
      rw [hN] at d1 hcap hrr AD
      have HB := Lib.hid (And.intro own (And.intro hL (And.intro hc1 hb)))
      clear own hL hc1 hb hk' hrr hcap hcm hN
      by_cases h6 : 600 < N
      · have h6I : (600 : Int) < (N : Int) := by omega
        clear AD h6
        go_wp2_with (go_at_call 47; refine (F.out _).mono ?_; rintro e w1 ⟨rfl, hb1⟩)
        go_ret
        exact ⟨rfl, bto0 HB.out.2.2.2 hb1⟩
      · have h6I : (N : Int) ≤ 600 := by omega
        clear h6
        go_wp2_with fail
        refine AD.out.mono ?_
        rintro e w2 (⟨q, hq, rfl, hb2⟩ | ⟨l', A', c', m', hl', rfl, own', hc', hb2⟩)
        · have e1 : (q == 0) = false := by simpa using hq
          have HE := Lib.hid (And.intro (HB.out.1.below hb2) (bto0 HB.out.2.2.2 hb2))
          clear hb2 hq AD
          go_wp2
          go_roundw
          case rel => exact ⟨k + 1, A1, c1, L, rfl, by go_num, by omega, HE.out.1, HB.out.2.1, HB.out.2.2.1, HE.out.2⟩
          case measure => simp [intOf]; omega
        · have HE := Lib.hid (And.intro (own'.less HB.out.2.2.2.size) (And.intro (bto0 HB.out.2.2.2 hb2) (And.intro hl' hc')))
          clear hb2 own' AD hl' hc'
          go_wp2
          go_roundw
          case rel => exact ⟨k + 1, A', c', l', rfl, by go_num, by omega, HE.out.1, HE.out.2.2.1, HE.out.2.2.2, HE.out.2.1⟩
          case measure => simp [intOf]; omega
    · obtain rfl : k = n := by omega
      have own0 := Own.empty wr (g := wr.heap.size) rfl
      have hz0 : wr.heap.size ≤ (wr.alloc (.cells #[] 5)).heap.size := by simp
      have HB := Lib.hid (And.intro (own.reads.1.alloc (Nat.le_refl _) (.cells #[] 5)) (And.intro hL hb))
      clear own hL hc1 hb
      go_wp2_with (at_builtin; refine wpList_appR rfl _ _ rfl wr.heap.size _ [] L A1 512 c1 wr.heap.size rfl own0 rfl HB.out.1 (by rw [HB.out.2.1]; simp) hz0 ?_; intro v1 w1 own1 kp1; rw [List.nil_append] at own1; obtain ⟨A3, c3, rfl, hc3⟩ := own1.form; rw [HB.out.2.1] at own1 hc3 ⊢; have hb1 := kp1.below wr.heap.size wr (Nat.le_refl _) (ball (Below.refl _ _) _))
      obtain ⟨g, tl, rfl, hg, hblk, htl, hcm⟩ := own1.open_ (by omega)
      have hgw : w.heap.size ≤ g := Nat.le_trans HB.out.2.2.size hg
      have H1 := Lib.hid (And.intro hblk (And.intro HB.out.2.1 (And.intro (bto0 HB.out.2.2 hb1) (And.intro htl hcm))))
      clear own1 kp1 hb1 hblk htl hcm own0 hz0 HB hg
      go_loopw [76] (fun u76 wr => ∃ (i : Nat) (L : List UInt8), u76 = .int .i64 (i : Nat) ∧ i ≤ na ∧ Blk wr g 5 (bT L tl) ∧ L.length = 512 ∧ Below w.heap.size w wr) (fun u76 _ => na - (intOf u76).toNat)
      case atStart => exact ⟨0, L, rfl, by omega, H1.out.1, H1.out.2.1, H1.out.2.2.1⟩
      case round =>
        obtain ⟨i, L, rfl, hi, hB, hL, hb⟩ := hrel
        have p0 : (0 : Int) ≤ (i : Int) := by omega
        by_cases hit : i < na
        · have p1 : (i : Int) < (na : Int) := by omega
          obtain ⟨ada, u, rfl, _, hu, ca1⟩ := (HR.out.2.1.below hb).at_ hit
          rw [List.getElem?_map] at hu
          obtain ⟨K, hK, rfl⟩ := Option.map_eq_some_iff.1 hu
          have hKw := Go.bounds_u16 (HR.out.2.2.1 K (List.mem_of_getElem? hK))
          obtain ⟨adb, y, rfl, _, hy, cb1⟩ := (HR.out.2.2.2.below hb).byte hit
          obtain ⟨j, hj⟩ : ∃ j : Nat, K % 512 = (j : Int) := ⟨(K % 512).toNat, by omega⟩
          have hj5 : j < 512 := by omega
          obtain ⟨x, hx⟩ := bT_at L tl j (by omega)
          have cx := (hB.cell j).trans hx
          have fx := hB.frozen j
          have wk : IntKind.i64.wrap K = K := IntWalk.i64_in _ (by omega)
          have tk : K.tmod 512 = (j : Int) := by rw [Int.tmod_eq_emod_of_nonneg hKw.1]; exact hj
          have wj : IntKind.i64.wrap (j : Int) = (j : Int) := IntWalk.i64_in _ (by omega)
          have j0 : (0 : Int) ≤ (j : Int) := by omega
          have j5 : (j : Int) < 512 := by omega
          have HX := Lib.hid (And.intro (xor_u8 x y) (And.intro hB (And.intro hL (And.intro hb hj5))))
          have k0 := hKw.1
          clear hK hKw hy hj hj5 hx hB hL hb
          go_wp2_with fail
          go_region
          rw [HX.out.1]
          have hB2 := HX.out.2.1.set_ j (.int .u8 (((x ^^^ y : UInt8).toNat : Nat) : Int))
          rw [bT_set _ _ _ _ (by rw [HX.out.2.2.1]; exact HX.out.2.2.2.2)] at hB2
          have HZ := Lib.hid (And.intro hB2 (HX.out.2.2.2.1.setCell (show w.heap.size ≤ (⟨g, j, none⟩ : Addr).block from hgw) (.int .u8 (((x ^^^ y : UInt8).toNat : Nat) : Int))))
          clear hB2
          go_wp2
          go_roundw
          case rel => exact ⟨i + 1, L.set j (x ^^^ y), by go_num, by omega, HZ.out.1.drew, by rw [List.length_set]; exact HX.out.2.2.1, HZ.out.2.drew⟩
          case measure => simp [intOf]; omega
        · obtain rfl : i = na := by omega
          have HB := Lib.hid (And.intro hB (And.intro hL hb))
          clear hB hL hb
          go_upto_if 96 with fail
          go_cut [11] (fun s11 wx => s11 = .slice (some ⟨g, 0, none⟩) 512 c3 ∧ ∃ L, L.length = 512 ∧ Blk wx g 5 (bT L tl) ∧ Below w.heap.size w wx)
          case first =>
            obtain ⟨x, hx⟩ := bT_at L tl 3 (by rw [HB.out.2.1]; decide)
            have cx := (HB.out.1.cell 3).trans hx
            have fx := HB.out.1.frozen 3
            have k0 := HC.out.1.1
            have k1 := HC.out.1.2
            have tk : count.tmod 3 = count % 3 := Int.tmod_eq_emod_of_nonneg k0
            obtain ⟨y, hy⟩ : ∃ y : UInt8, count / 256 = (y.toNat : Int) := ⟨UInt8.ofNat (count / 256).toNat, by rw [u8_nat]; omega⟩
            have HX := Lib.hid (And.intro (xor_u8 x y) hy)
            clear hy hx
            by_cases h3 : count % 3 = 0
            · have e1 : (count % 3 == 0) = true := by simp [h3]
              clear h3
              go_wp2_with fail
              rw [HX.out.2, HX.out.1]
              have hB2 := HB.out.1.set_ 3 (.int .u8 (((x ^^^ y : UInt8).toNat : Nat) : Int))
              rw [bT_set _ _ _ _ (by rw [HB.out.2.1]; decide)] at hB2
              go_meet
              case rel => exact ⟨rfl, L.set 3 (x ^^^ y), by rw [List.length_set]; exact HB.out.2.1, hB2, HB.out.2.2.setCell (show w.heap.size ≤ (⟨g, 3, none⟩ : Addr).block from hgw) _⟩
            · have e1 : (count % 3 == 0) = false := by simp [h3]
              clear h3
              go_wp2_with fail
              go_meet
              case rel => exact ⟨rfl, L, HB.out.2.1, HB.out.1, HB.out.2.2⟩
          case rest =>
            clear HB
            obtain ⟨rfl, L, hL, hB, hb⟩ := hcut
            have own := Own.shut (base := w.heap.size) (n := 512) (c := c3) hB (by have h := H1.out.2.2.2.1; rw [List.length_append, bL_len] at h ⊢; rw [hL, ← h, H1.out.2.1]) H1.out.2.2.2.2 hgw hL.symm
            have HB := Lib.hid (And.intro own (And.intro hL hb))
            clear hL hB hb own
            obtain ⟨ok, hok⟩ : ∃ ok, decide (0 ≤ size ∧ size < 600) = ok := ⟨_, rfl⟩
            have HO := Lib.hid hok
            clear hok
            go_upto_region 23 with fail
            go_cut [110] (fun s110 wx => s110 = .bool ok ∧ wx = wc)
            case first =>
              have ho := HO.out
              by_cases h0 : 0 ≤ size
              · have e0 : decide (0 ≤ size) = true := by simp [h0]
                by_cases h6 : size < 600
                · have e1 : decide (size < 600) = true := by simp [h6]
                  obtain rfl : ok = true := by rw [← ho]; simp [h0, h6]
                  clear ho
                  go_wp2_with fail
                  go_meet
                  case rel => exact ⟨rfl, rfl⟩
                · have e1 : decide (size < 600) = false := by simp [h6]
                  obtain rfl : ok = false := by rw [← ho]; simp [h6]
                  clear ho
                  go_wp2_with fail
                  go_meet
                  case rel => exact ⟨rfl, rfl⟩
              · have e0 : decide (0 ≤ size) = false := by simp [h0]
                obtain rfl : ok = false := by rw [← ho]; simp [h0]
                clear ho
                go_wp2_with fail
                go_meet
                case rel => exact ⟨rfl, rfl⟩
            case rest =>
              obtain ⟨rfl, rfl⟩ := hcut
              go_upto_if 110 with fail
              go_cut [11] (fun s11 wx => ∃ A n c L, s11 = .slice A n c ∧ Reads wx wx.heap.size 1 A n (bL L) ∧ n ≤ 600 ∧ n ≤ c ∧ Below w.heap.size w wx)
              case first =>
                cases ok
                · go_wp2_with fail
                  go_meet
                  case rel => exact ⟨_, 512, c3, L, rfl, HB.out.1.reads.1, by omega, hc3, HB.out.2.2⟩
                · have hs : 0 ≤ size ∧ size < 600 := of_decide_eq_true HO.out
                  have s0 := hs.1
                  have s1 := hs.2
                  obtain ⟨S, hS⟩ : ∃ S : Nat, size = S := ⟨size.toNat, by omega⟩
                  have hz := HB.out.2.2.size
                  have hS6 : S ≤ 600 := by omega
                  have HSS := Lib.hid hS
                  clear hs hS
                  go_wp2_with (at_builtin; refine wpList_appZ rfl _ _ rfl w.heap.size _ L 88 _ rfl HB.out.1 rfl rfl (by rw [HB.out.2.1]; decide) hz ?_; intro v6 w6 own6 kp6; obtain ⟨A6, c6, rfl, hc6⟩ := own6.form; rw [List.length_append, HB.out.2.1, List.length_replicate] at own6 hc6 ⊢; obtain ⟨A7, sl7, hr7⟩ := cutb_hi (A := A6) (n := 600) (c := c6) .i64 S size HSS.out (by omega) hc6)
                  go_meet
                  case rel => exact ⟨A7, S, c6, _, rfl, hr7 _ _ _ own6.reads.1, by omega, by omega, kp6.below _ _ (Nat.le_refl _) HB.out.2.2⟩
              case rest =>
                clear HB HO
                obtain ⟨Az, nz, cz, L, rfl, hr, hn6, hnc, hb⟩ := hcut
                have hlz := hr.bytes_len
                have RD := Lib.hid (rread_any L (by omega) wc)
                have MY := Lib.hid fun V (hV : Below wc.heap.size wc V) => may_any (n := nz) (c := cz) (hr.below hV) hV.size (by omega) hnc
                have HB := Lib.hid (And.intro hr (And.intro hn6 (And.intro hnc hb)))
                have cvz := hr.cnv (c := cz)
                clear hr hn6 hnc hb hlz H1
                go_wp2_with fail
                refine RD.out.mono ?_
                rintro e w2 (⟨hp, rfl, hb2⟩ | ⟨hp, A3, c3', rfl, hr3, hc3', _, hb2⟩)
                · rw [hp] at MY
                  have b3 := ball hb2 (.cells #[.int .u32 0, .slice none 0 0] 89)
                  have AD := Lib.hid fun V A2 n2 c2 (hV : Below wc.heap.size wc V) => add_no (n := nz) (c := cz) (A2 := A2) (n2 := n2) (c2 := c2) hp (HB.out.1.below hV) hV.size (by have := HB.out.2.1; omega) HB.out.2.2.1
                  have GT := Lib.hid fun V (hV : Below wc.heap.size wc V) => get_no (n := nz) (c := cz) 0 hp (HB.out.1.below hV) hV.size (by have := HB.out.2.1; omega) HB.out.2.2.1
                  have AL := Lib.hid fun V (hV : Below wc.heap.size wc V) => all_no (n := nz) (c := cz) hp (HB.out.1.below hV) hV.size (by have := HB.out.2.1; omega) HB.out.2.2.1
                  have LK := Lib.hid fun V (hV : Below wc.heap.size wc V) => link_no (n := nz) (c := cz) 1 hp (HB.out.1.below hV) hV.size (by have := HB.out.2.1; omega) HB.out.2.2.1
                  rw [show ((1 : Nat) : Int) = 1 from rfl] at LK
                  have CN := Lib.hid fun V (hV : Below wc.heap.size wc V) => count_any (n := nz) (c := cz) (HB.out.1.below hV) hV.size (by have := HB.out.2.1; omega) HB.out.2.2.1
                  have RM := Lib.hid fun V (hV : Below wc.heap.size wc V) => Room_any (n := nz) (c := cz) (HB.out.1.below hV) hV.size (by have := HB.out.2.1; omega) HB.out.2.2.1
                  have hpc : pC L = 0 := by unfold pC; rw [hp]; rfl
                  have hpr : pRoom L = 0 := by unfold pRoom; rw [hp]; rfl
                  rw [hpc, show ((0 : Nat) : Int) = 0 from rfl] at CN
                  rw [hpr, show ((0 : Nat) : Int) = 0 from rfl] at RM
                  clear hp hpc hpr cvz
                  go_wp2_with fail
                  refine (MY.out _ b3).mono ?_
                  rintro e w4 ⟨rfl, hb4⟩
                  have b4 := bto0 b3 hb4
                  clear hb4
                  go_wp2_with fail
                  refine (AD.out _ _ _ _ (ball b4 _)).mono ?_
                  rintro e w5 ⟨rfl, hb5⟩
                  have b5 := bto0 (ball b4 _) hb5
                  clear hb5
                  go_wp2_with fail
                  refine (GT.out _ b5).mono ?_
                  rintro e w6 ⟨rfl, hb6⟩
                  have b6 := bto0 b5 hb6
                  clear hb6
                  go_wp2_with fail
                  refine (AL.out _ b6).mono ?_
                  rintro e w7 ⟨rfl, hb7⟩
                  have b7 := bto0 b6 hb7
                  clear hb7
                  go_wp2_with fail
                  refine (LK.out _ b7).mono ?_
                  rintro e w8 ⟨rfl, hb8⟩
                  have b8 := bto0 b7 hb8
                  clear hb8
                  go_wp2_with fail
                  refine (F.out _).mono ?_
                  rintro e w9 ⟨rfl, hb9⟩
                  have b9 := bto0 b8 hb9
                  clear hb9
                  go_wp2_with fail
                  refine (CN.out _ b9).mono ?_
                  rintro e w10 ⟨rfl, hb10⟩
                  have b10 := bto0 b9 hb10
                  clear hb10
                  go_wp2_with fail
                  refine (RM.out _ b10).mono ?_
                  rintro e w11 ⟨rfl, hb11⟩
                  have b11 := bto0 HB.out.2.2.2 (bto0 b10 hb11)
                  clear hb11
                  go_wp2
                  go_ret
                  exact ⟨rfl, b11⟩
                · rw [hp] at MY
                  have hPG := Blk.new w2 89 #[.int .u32 (hdN L : Nat), .slice A3 (hdC L) c3']
                  have hr4 := (hr3.alloc (Nat.le_refl _) (.cells #[.int .u32 (hdN L : Nat), .slice A3 (hdC L) c3'] 89)).more (show w2.heap.size ≤ (w2.alloc (.cells #[.int .u32 (hdN L : Nat), .slice A3 (hdC L) c3'] 89)).heap.size by simp)
                  have b3 := ball hb2 (.cells #[.int .u32 (hdN L : Nat), .slice A3 (hdC L) c3'] 89)
                  clear cvz
                  go_wp2_with fail
                  refine (MY.out _ b3).mono ?_
                  rintro e W6 ⟨rfl, hb4⟩
                  obtain ⟨gp, hgp⟩ : ∃ gp, w2.heap.size = gp := ⟨_, rfl⟩
                  have hP6 := hPG.below hb4 hPG.lt
                  rw [hgp] at hP6
                  have hr6 := (hr4.below hb4).more hb4.size
                  have b6 := bto0 b3 hb4
                  have hC6 := (page_end hp).2.1
                  have ht6 := page_tot hp
                  have CN := Lib.hid fun V (hV : Below W6.heap.size W6 V) => count_any (n := nz) (c := cz) (HB.out.1.below (bto0 b6 hV)) (bto0 b6 hV).size (by have := HB.out.2.1; omega) HB.out.2.2.1
                  have RM := Lib.hid fun V (hV : Below W6.heap.size W6 V) => Room_any (n := nz) (c := cz) (HB.out.1.below (bto0 b6 hV)) (bto0 b6 hV).size (by have := HB.out.2.1; omega) HB.out.2.2.1
                  have RR := Lib.hid fun V (hV : Below W6.heap.size W6 V) => rroom_any (c := c3') (hdN L : Int) ((hr6.below hV).more hV.size) (by omega) (by omega)
                  have SM := Lib.hid fun V (hV : Below W6.heap.size W6 V) => psame_any (n := nz) (c := cz) (hdN L : Int) hp (HB.out.1.below (bto0 b6 hV)) (bto0 b6 hV).size (by have := HB.out.2.1; omega) HB.out.2.2.1 A3 (hdC L) c3' rfl ((hr6.below hV).more hV.size)
                  have hpc : pC L = hdC L := by unfold pC; rw [hp]; rfl
                  rw [hpc] at CN
                  rw [page_room hp] at RM
                  have HS : Hid (∀ w', Below W6.heap.size W6 w' → w'.cell? ⟨gp, 0, none⟩ = some (.int .u32 (hdN L : Nat)) ∧ w'.cell? ⟨gp, 1, none⟩ = some (.slice A3 (hdC L) c3') ∧ Below W6.heap.size W6 w') := fun V hV => ⟨(hP6.below hV hP6.lt).cell 0, (hP6.below hV hP6.lt).cell 1, hV⟩
                  have H6 := Lib.hid (bto0 HB.out.2.2.2 b6)
                  have hCI : ((hdC L : Nat) : Int) ≤ 126 := by omega
                  obtain ⟨RV, hRV⟩ : ∃ RV, 508 - (8 + 4 * hdC L + tot (recs L)) = RV := ⟨_, rfl⟩
                  rw [hRV] at RM RR
                  rw [hgp]
                  clear hRV hpc hC6 ht6 b6 hr6 hP6 hb4 b3 hr4 hPG hb2 hr3 hp hgp hc3'
                  obtain ⟨HN, hHN⟩ : ∃ HN, hdN L = HN := ⟨_, rfl⟩
                  obtain ⟨HC', hHC⟩ : ∃ HC', hdC L = HC' := ⟨_, rfl⟩
                  rw [hHN, hHC] at HS
                  rw [hHN, hHC] at RR SM
                  rw [hHC] at CN hCI
                  rw [hHN, hHC]
                  clear hHN hHC
                  go_wp2_with fail
                  go_region_held3 (fun w' => w'.cell? ⟨gp, 0, none⟩ = some (.int .u32 (HN : Nat)) ∧ w'.cell? ⟨gp, 1, none⟩ = some (.slice A3 (HC') c3') ∧ Below W6.heap.size W6 w')
                    (first | exact HS.out _ (Below.refl _ _) | exact HS.out _ (Below.drew (Below.refl _ _)) | exact HS.out _ hq4 | exact HS.out _ hq3 | exact HS.out _ hq2 | exact HS.out _ hq1 | exact HS.out _ hq0 | assumption)
                    (first
                      | (go_at_call 47; (with_reducible refine (F.out _).mono ?_); rintro e w20 ⟨rfl, hq0'⟩; have hq0 : Below W6.heap.size W6 w20 := bto0 (by with_reducible repeat (first | exact Below.refl _ _ | exact hq4 | exact hq3 | exact hq2 | exact hq1 | exact hq0 | refine Below.drew ?_ | refine bdr ?_ _)) hq0')
                      | (go_at_call 52; (with_reducible refine (CN.out _ (by with_reducible repeat (first | exact Below.refl _ _ | exact hq4 | exact hq3 | exact hq2 | exact hq1 | exact hq0 | refine Below.drew ?_ | refine bdr ?_ _))).mono ?_); rintro e w21 ⟨rfl, hq1'⟩; have hq1 : Below W6.heap.size W6 w21 := bto0 (by with_reducible repeat (first | exact Below.refl _ _ | exact hq4 | exact hq3 | exact hq2 | exact hq1 | exact hq0 | refine Below.drew ?_ | refine bdr ?_ _)) hq1')
                      | (go_at_call 53; (with_reducible refine (RM.out _ (by with_reducible repeat (first | exact Below.refl _ _ | exact hq4 | exact hq3 | exact hq2 | exact hq1 | exact hq0 | refine Below.drew ?_ | refine bdr ?_ _))).mono ?_); rintro e w22 ⟨rfl, hq2'⟩; have hq2 : Below W6.heap.size W6 w22 := bto0 (by with_reducible repeat (first | exact Below.refl _ _ | exact hq4 | exact hq3 | exact hq2 | exact hq1 | exact hq0 | refine Below.drew ?_ | refine bdr ?_ _)) hq2')
                      | (go_at_call 50; (with_reducible refine (RR.out _ (by with_reducible repeat (first | exact Below.refl _ _ | exact hq4 | exact hq3 | exact hq2 | exact hq1 | exact hq0 | refine Below.drew ?_ | refine bdr ?_ _))).mono ?_); rintro e w23 ⟨rfl, hq3'⟩; have hq3 : Below W6.heap.size W6 w23 := bto0 (by with_reducible repeat (first | exact Below.refl _ _ | exact hq4 | exact hq3 | exact hq2 | exact hq1 | exact hq0 | refine Below.drew ?_ | refine bdr ?_ _)) hq3')
                      | (go_at_call 55; (with_reducible refine (SM.out _ (by with_reducible repeat (first | exact Below.refl _ _ | exact hq4 | exact hq3 | exact hq2 | exact hq1 | exact hq0 | refine Below.drew ?_ | refine bdr ?_ _))).mono ?_); rintro e w24 ⟨rfl, hq4'⟩; have hq4 : Below W6.heap.size W6 w24 := bto0 (by with_reducible repeat (first | exact Below.refl _ _ | exact hq4 | exact hq3 | exact hq2 | exact hq1 | exact hq0 | refine Below.drew ?_ | refine bdr ?_ _)) hq4'))
                  go_wp2
                  go_ret
                  exact ⟨rfl, bto0 H6.out hq4⟩
end Go.Proofs.Ytcpbkaeilmabaaa
