/-
  Pool: the law PoolHeads.
-/
import Derived.Test.YtcpbkaeilmabaaaPn
import Derived.Test.YtcpbkaeilmabaaaSf
import Derived.Test.YtcpbkaeilmabaaaDo
import Derived.Test.YtcpbkaeilmabaaaOc
namespace Go.Proofs.Ytcpbkaeilmabaaa
set_option linter.unusedSimpArgs false
set_option linter.unusedVariables false
open Go.RowKit Go.Maps

def RetBegin2 (w : World) (n : Nat) (e : Ending) (w' : World) : Prop := ∃ g gb gt ps T, e = .returned (.pointer (some ⟨g, 0, none⟩)) ∧ DP w' g gb gt n ps T ∧ Below w.heap.size w w' ∧ w.heap.size ≤ gb ∧ w.heap.size ≤ gt
set_option maxRecDepth 100000 in
theorem begin2_any (n : Nat) (h1 : 1 ≤ n) (h2 : n ≤ 20) (w : World) : Calls Try.prog 36 #[.int .i64 n] w (RetBegin2 w n) := by
  have N := Lib.hid (newDP n h1 (by omega) w)
  have hnI : (n : Int) ≤ 20 := by omega
  go_enter Try.func36, Try.ntmps36
  go_wp2_with fail
  refine N.out.mono ?_
  rintro e w1 ⟨g, gb, gt, rfl, dp, k1, k2, k3, hb1⟩
  have H0 := Lib.hid (And.intro dp (And.intro k1 (And.intro k2 (And.intro k3 hb1))))
  clear dp k1 k2 k3 hb1
  go_wp2_with fail
  go_loopw [15] (fun u15 wr => ∃ (i : Nat) (ps : List (List UInt8)) (T : List Bool), u15 = .int .i64 i ∧ i ≤ n ∧ DP wr g gb gt n ps T ∧ Below w.heap.size w wr) (fun u15 _ => n - (intOf u15).toNat)
  case atStart => exact ⟨0, _, _, rfl, by omega, H0.out.1, H0.out.2.2.2.2⟩
  case round =>
    obtain ⟨i, ps, T, rfl, hi, dp, hb⟩ := hrel
    have q0 : (0 : Int) ≤ (i : Int) := by omega
    by_cases hlt : i < n
    · have q1 : (i : Int) < (n : Int) := by omega
      have PUT : Hid (∀ W, Calls Try.prog 29 #[.agg #[.int .u8 ((i : Int) % 5), .int .u16 i, .int .u32 (7 * (i : Int))]] W (RetHead W (UInt8.ofNat (i % 5)) i (7 * i))) := by
        intro W
        have h := dput_any (UInt8.ofNat (i % 5)) i (7 * i) (by omega) (by omega) W
        rw [show (((UInt8.ofNat (i % 5)).toNat : Nat) : Int) = (i : Int) % 5 from by simp; omega, show ((7 * i : Nat) : Int) = 7 * (i : Int) from by omega] at h
        exact h
      have HD := Lib.hid (And.intro dp hb)
      clear dp hb
      go_wp2_with fail
      refine (PUT.out _).mono ?_
      rintro e w2 ⟨g2, rfl, hB2, hg2, hb2⟩
      have dl := HD.out.1.lts
      have dp2 := HD.out.1.below hb2 dl.1 dl.2.1 dl.2.2
      have WR := Lib.hid (writeDP dp2 i hlt (by omega) ⟨g2, 0, none⟩ 512 w2.heap.size _ (reads_bv hB2 (headP_len _ _ _ _ (by omega))))
      have b2 := bto0 HD.out.2 hb2
      clear dp2 hB2 hb2 dl
      go_wp2_with fail
      refine WR.out.mono ?_
      rintro e w3 ⟨rfl, hL⟩
      have b3 := b2.trans (hL.2.1 w.heap.size H0.out.2.2.1 H0.out.2.2.2.1)
      have HE := Lib.hid (And.intro hL.1 b3)
      clear hL b3 b2
      go_wp2
      go_roundw
      case rel => exact ⟨i + 1, _, _, by go_num, by omega, HE.out.1, HE.out.2⟩
      case measure => simp [intOf]; omega
    · obtain rfl : i = n := by omega
      have HE := Lib.hid (And.intro dp hb)
      clear dp hb
      go_wp2
      go_ret
      exact ⟨g, gb, gt, ps, T, rfl, HE.out.1, HE.out.2, H0.out.2.2.1, H0.out.2.2.2.1⟩
theorem lawHeadsP_out (pages : Int) (p k : Int) (A : Option Addr) (m c : Nat) (w : World) (h : pages < 1 ∨ 20 < pages ∨ 512 < m) (hm : m ≤ 9223372036854775807) :
    Calls Try.prog 9 #[.int .i64 pages, .int .u32 p, .int .u8 k, .slice A m c] w (RetB w (.bool true)) := by
  have F := Lib.hid pfixed_any
  by_cases h1 : pages < 1
  · have e1 : decide (pages < 1) = true := by simp [h1]
    clear h hm
    go_enter Try.func9, Try.ntmps9
    go_wp2_with (go_at_call 35; refine (F.out _).mono ?_; rintro e w1 ⟨rfl, hb1⟩)
    go_ret
    exact ⟨rfl, hb1⟩
  · have e1 : decide (pages < 1) = false := by simp [h1]
    by_cases h2 : 20 < pages
    · have e2 : decide (20 < pages) = true := by simp [h2]
      clear h hm h1
      go_enter Try.func9, Try.ntmps9
      go_wp2_with (go_at_call 35; refine (F.out _).mono ?_; rintro e w1 ⟨rfl, hb1⟩)
      go_ret
      exact ⟨rfl, hb1⟩
    · have e2 : decide (20 < pages) = false := by simp [h2]
      have h3 : (512 : Int) < (m : Int) := by omega
      have e3 : decide ((512 : Int) < (m : Int)) = true := by simp [h3]
      clear h hm h1 h2
      go_enter Try.func9, Try.ntmps9
      go_wp2_with (go_at_call 35; refine (F.out _).mono ?_; rintro e w1 ⟨rfl, hb1⟩)
      go_ret
      exact ⟨rfl, hb1⟩
set_option maxRecDepth 100000 in
set_option maxHeartbeats 2000000 in
theorem lawHeadsP_in (n p : Nat) (k : Int) (A : Option Addr) (m c : Nat) (L : List UInt8) (w : World) (h1 : 1 ≤ n) (h2 : n ≤ 20) (hp : p ≤ 4294967295) (hm : m ≤ 512) (hr : Reads w w.heap.size 1 A m (bL L)) :
    Calls Try.prog 9 #[.int .i64 n, .int .u32 p, .int .u8 k, .slice A m c] w (RetB w (.bool true)) := by
  have F := Lib.hid pfixed_any
  have BG := Lib.hid (begin2_any n h1 h2 w)
  have e1 : decide ((n : Int) < 1) = false := by simp; omega
  have e2 : decide ((20 : Int) < (n : Int)) = false := by simp; omega
  have e3 : decide ((512 : Int) < (m : Int)) = false := by simp; omega
  have hpI : (p : Int) ≤ 4294967295 := by omega
  have hl := hr.bytes_len
  have HR := Lib.hid (And.intro hr hl)
  clear hr hl
  obtain ⟨Z, hZ⟩ : ∃ Z, List.replicate 512 (0 : UInt8) = Z := ⟨_, rfl⟩
  have hZl : Z.length = 512 := by rw [← hZ, List.length_replicate]
  have mk0 : ∀ W, (Instr.makeSlice 37 (.int .i64 512) (.int .i64 512)).run Try.prog W = .ok (.slice (some ⟨W.heap.size, 0, none⟩) 512 512) (W.alloc (.cells (bV Z) 5)) := by
    obtain ⟨i0, hi0, hz0, hs0, hy0⟩ := int_info8 Try.infoU8
    intro W
    have h := run_make (P := Try.prog) W 37 5 i0 (.int .u8 0) Try.underlying37 hi0 hz0 .i64 .i64 512 512 (by omega) (by omega) (by rw [hy0]; omega) (by omega)
    rw [hs0] at h
    have e0 : madeCells #[.int .u8 0] 512 = bV Z := by
      rw [← hZ, ← fillA_rep 0 512]
      rw [fillA_zero (0 : Int) 512]
      apply Array.ext
      · simp [fillA]
      · intro j h1 h2
        simp [fillA]
    rw [← e0]
    exact h
  have HI : Hid ((Try.prog.info? 5).map (·.size) = some 1) := by
    obtain ⟨i0, hi0, _, hs0, _⟩ := int_info8 Try.infoB
    unfold Hid
    rw [hi0, Option.map_some, hs0]
  have HZ := Lib.hid hZl
  clear hZ hZl
  go_enter Try.func9, Try.ntmps9
  go_wp2_with fail
  refine BG.out.mono ?_
  rintro e w1 ⟨gd, gb, gt, ps, T, rfl, dp, hb1, hgb, hgt⟩
  have lts := dp.lts
  have dp2 := dp.below (ball (Below.refl w1.heap.size w1) (.cells (bV Z) 5)) lts.1 lts.2.1 lts.2.2
  have hB2 := Blk.new w1 5 (bV Z)
  have hb2 := ball hb1 (.cells (bV Z) 5)
  have hb12 : Below w1.heap.size w1 (w1.alloc (.cells (bV Z) 5)) := ball (Below.refl _ _) _
  have hzw := hb1.size
  have HD := Lib.hid (And.intro dp (And.intro dp2 (And.intro hB2 (And.intro hb2 (And.intro hb12 lts)))))
  have HW1 := Lib.hid hb1
  have HSRC : Hid (0 < m → ∃ ad, A = some ad ∧ ∀ j v, (bL L)[j]? = some v → (w1.alloc (.cells (bV Z) 5)).cell? (ad.add j) = some v) := by
    intro hpos
    obtain ⟨ad, hA, _, hcl⟩ := (HR.out.1.below hb2).2 hpos
    exact ⟨ad, hA, hcl⟩
  clear dp dp2 hB2 hb2 lts hb1 hb12
  go_wp2_with (refine wpList_copy_splice rfl _ _ 37 37 rfl 5 Try.underlying37 HI.out (some ⟨w1.heap.size, 0, none⟩) A 512 512 m c rfl rfl w1.heap.size 0 (bL Z) 5 HD.out.2.2.1 (bL L) (by rw [bL_len, HR.out.2]; show m = min m 512; omega) (fun hq => ⟨rfl, HSRC.out (by rw [bL_len, HR.out.2] at hq; exact hq)⟩) (by rw [bL_len, HR.out.2, bL_len, HZ.out]; omega) (bL_one L) w1.heap.size w1 HD.out.2.2.2.2.1 (Nat.le_refl _) ?_; intro w2 hg2 hb2)
  have hQ : (splice (bL Z) 0 (bL L)).toArray = bV (splice Z 0 L) := by
    have := splice_bT Z L [] 0 (by rw [HR.out.2, HZ.out]; omega)
    rw [List.append_nil] at this
    rw [this]; unfold bT; rw [List.append_nil]; rfl
  have hQl : (splice Z 0 L).length = 512 := by rw [length_splice Z 0 L (by rw [HR.out.2, HZ.out]; omega)]; exact HZ.out
  obtain ⟨q0, hq0⟩ : ∃ q0, splice Z 0 L = q0 := ⟨_, rfl⟩
  rw [hq0] at hQ hQl
  have hB2 : Blk w2 w1.heap.size 5 (bV q0) := by
    have h := hg2.out
    rw [hQ] at h
    exact h
  have dp2 := HD.out.1.below hb2 HD.out.2.2.2.2.2.1 HD.out.2.2.2.2.2.2.1 HD.out.2.2.2.2.2.2.2
  have WR := Lib.hid (writeDP dp2 0 (by omega) (by omega) ⟨w1.heap.size, 0, none⟩ 512 w2.heap.size q0 (reads_bv hB2 hQl))
  have hbw2 := bto0 HW1.out hb2
  have H2 := Lib.hid hbw2
  clear hg2 hQ hQl hq0 hB2 dp2 hb2 hbw2 HSRC
  go_wp2_with fail
  refine WR.out.mono ?_
  rintro e w3 ⟨rfl, hL⟩
  have b3 := H2.out.trans (hL.2.1 w.heap.size hgb hgt)
  have dp3 := hL.1
  obtain ⟨ps3, hps3⟩ : ∃ ps3, ps.set 0 q0 = ps3 := ⟨_, rfl⟩
  obtain ⟨T3, hT3⟩ : ∃ T3, T.set 0 true = T3 := ⟨_, rfl⟩
  rw [hps3, hT3] at dp3
  have N := Lib.hid (pnew_any (size := 3) dp3 (by omega) (by omega))
  rw [show ((3 : Nat) : Int) = 3 from rfl] at N
  have H3 := Lib.hid b3
  clear hL b3 dp3 hps3 hT3 WR H2 HD
  go_wp2_with fail
  refine N.out.mono ?_
  rintro e w4 ⟨gp, gm, D, rfl, pa, hb4, hg1, hg2⟩
  have HH := Lib.hid (head_any pa p k hp h2 (by omega) (by omega) hb4.size)
  have b4 := bto0 H3.out hb4
  have hw3 := H3.out.size
  clear hb4 N pa
  go_wp2_with fail
  refine HH.out.mono ?_
  rintro e w5 ⟨⟨K', D', rd', ht', pa5⟩, tn5, hc⟩
  have b5 := tn5.below _ _ (by omega) b4
  have H5 := Lib.hid (And.intro pa5 b5)
  clear b4 tn5 b5
  rcases hc with ⟨hnp, rfl⟩ | ⟨q, hq, hno, rfl⟩ | ⟨q, A5, c5, hq, hok, hkk, rfl, own5⟩
  · have e9 : decide ((n : Int) ≤ (p : Int)) = true := by simp; omega
    unfold hd0
    clear pa5
    go_wp2_with fail
    refine (F.out _).mono ?_
    rintro e w6 ⟨rfl, hb6⟩
    have HE := Lib.hid (bto0 (ball H5.out.2 (.cells #[.int .u8 0, .int .u16 0, .int .u32 0] 57)) hb6)
    clear hb6
    go_wp2
    go_ret
    exact ⟨rfl, HE.out⟩
  · have hpn : p < n := by have := lt_of_at hq; rw [H5.out.1.dk.hp] at this; exact this
    have e9 : decide ((n : Int) ≤ (p : Int)) = false := by simp; omega
    unfold hd0
    have hlt5 := H5.out.1.dk.lts
    have hb50 : Below w5.heap.size w5 (w5.alloc (.cells #[.int .u8 0, .int .u16 0, .int .u32 0] 57)) := ball (Below.refl _ _) _
    have dp5 := H5.out.1.dk.below hb50 hlt5.1 hlt5.2.1 hlt5.2.2
    have RD := Lib.hid (read_ok dp5 p q hq (by omega))
    have hX5 := Blk.new w5 57 #[.int .u8 0, .int .u16 0, .int .u32 0]
    have hql : q.length = 512 := dp5.full q (List.mem_of_getElem? hq)
    have HX5 := Lib.hid (And.intro hX5 (And.intro (ball H5.out.2 (.cells #[.int .u8 0, .int .u16 0, .int .u32 0] 57)) hql))
    have HC5 := Lib.hid hb50
    have hz5 : (w5.alloc (.cells #[.int .u8 0, .int .u16 0, .int .u32 0] 57)).heap.size = w5.heap.size + 1 := by simp
    clear pa5 hlt5 hb50 dp5 hX5 hql hq
    go_wp2_with fail
    refine RD.out.mono ?_
    rintro e w6 ⟨rfl, hB6, hb6⟩
    have HC6 := Lib.hid (bto0 HC5.out hb6)
    rw [hz5] at hB6
    clear hz5
    have cv := (reads_bv hB6 HX5.out.2.2).cnv (c := 512)
    have RG := Lib.hid (rhget_any q (by rw [HX5.out.2.2]; omega) w6)
    have hX6 := HX5.out.1.below hb6 HX5.out.1.lt
    have H6 := Lib.hid (And.intro hX6 (And.intro hB6 (bto0 HX5.out.2.1 hb6)))
    clear hB6 hb6 hX6 RD
    go_wp2_with fail
    refine RG.out.mono ?_
    rintro e w7 ⟨rfl, hb7⟩
    have HC7 := Lib.hid (bto0 HC6.out hb7)
    have hX7 := H6.out.1.below hb7 H6.out.1.lt
    have hB7 := H6.out.2.1.below hb7 H6.out.2.1.lt
    have H7 := Lib.hid (And.intro hX7 (And.intro hB7 (bto0 H6.out.2.2 hb7)))
    clear hX7 hB7 hb7 RG cv
    have ho : (hdOk q = true ∧ hdV q = .agg #[.int .u8 (hdK q : Int), .int .u16 (hdC q : Int), .int .u32 (hdN q : Int)]) ∨ (hdOk q = false ∧ hdV q = hd0) := by
      unfold hdV hd0
      rcases hdOk q with _ | _
      · exact .inr ⟨rfl, rfl⟩
      · exact .inl ⟨rfl, rfl⟩
    rcases ho with ⟨ho, hv⟩ | ⟨ho, hv⟩
    · rw [ho, hv]
      have hno : (hdK q : Int) ≠ k := by
        rcases hno with h | h
        · rw [ho] at h; cases h
        · exact h
      obtain ⟨a, ha⟩ : ∃ a, (hdK q : Int) = a := ⟨_, rfl⟩
      obtain ⟨b, hb⟩ : ∃ b, (hdC q : Int) = b := ⟨_, rfl⟩
      obtain ⟨d, hd⟩ : ∃ d, (hdN q : Int) = d := ⟨_, rfl⟩
      rw [hb, hd, ha]
      rw [ha] at hno
      have e8 : (a != k) = true := by simpa using hno
      clear ho hv hb hd ha hno
      have hX8 := H7.out.1.alloc (.cells #[.int .u8 a, .int .u16 b, .int .u32 d] 57)
      have hb8 := ball H7.out.2.2 (.cells #[.int .u8 a, .int .u16 b, .int .u32 d] 57)
      have H8 := Lib.hid (And.intro hX8 hb8)
      clear hX8 hb8
      go_wp2_with fail
      refine (F.out _).mono ?_
      rintro e w9 ⟨rfl, hb9⟩
      have hX9 := H8.out.1.below hb9 H8.out.1.lt
      have c0 := hX9.cell 0; have c1 := hX9.cell 1; have c2 := hX9.cell 2
      have hbe := bto0 H8.out.2 hb9
      have HE := Lib.hid hbe
      clear hX9 hb9 hbe
      go_wp2
      go_ret
      exact ⟨rfl, HE.out⟩
    · rw [ho, hv]
      unfold hd0
      clear ho hv hno
      have hX8 := H7.out.1.alloc (.cells #[.int .u8 0, .int .u16 0, .int .u32 0] 57)
      have hb8 := ball H7.out.2.2 (.cells #[.int .u8 0, .int .u16 0, .int .u32 0] 57)
      have H8 := Lib.hid (And.intro hX8 hb8)
      clear hX8 hb8
      go_wp2_with fail
      refine (F.out _).mono ?_
      rintro e w9 ⟨rfl, hb9⟩
      have hX9 := H8.out.1.below hb9 H8.out.1.lt
      have c0 := hX9.cell 0; have c1 := hX9.cell 1; have c2 := hX9.cell 2
      have hbe := bto0 H8.out.2 hb9
      have HE := Lib.hid hbe
      clear hX9 hb9 hbe
      go_wp2
      go_ret
      exact ⟨rfl, HE.out⟩
  · have hpn : p < n := by have := lt_of_at hq; rw [H5.out.1.dk.hp] at this; exact this
    have e9 : decide ((n : Int) ≤ (p : Int)) = false := by simp; omega
    have hv : hdV q = .agg #[.int .u8 (hdK q : Int), .int .u16 (hdC q : Int), .int .u32 (hdN q : Int)] := by unfold hdV; rw [hok, if_pos rfl]
    have HVV := Lib.hid (And.intro hok hv)
    rw [hv]
    obtain ⟨a, ha⟩ : ∃ a, (hdK q : Int) = a := ⟨_, rfl⟩
    obtain ⟨b, hb⟩ : ∃ b, (hdC q : Int) = b := ⟨_, rfl⟩
    obtain ⟨d, hd⟩ : ∃ d, (hdN q : Int) = d := ⟨_, rfl⟩
    have HABD := Lib.hid (And.intro ha (And.intro hb hd))
    rw [hb, hd, ha]
    rw [ha] at hkk
    clear hv hok ha hb hd
    subst hkk
    have HO := Lib.hid own5
    clear own5
    have hlt5 := H5.out.1.dk.lts
    have hb50 : Below w5.heap.size w5 (w5.alloc (.cells #[.int .u8 a, .int .u16 b, .int .u32 d] 57)) := ball (Below.refl _ _) _
    have dp5 := H5.out.1.dk.below hb50 hlt5.1 hlt5.2.1 hlt5.2.2
    have RD := Lib.hid (read_ok dp5 p q hq (by omega))
    have hX5 := Blk.new w5 57 #[.int .u8 a, .int .u16 b, .int .u32 d]
    have hql : q.length = 512 := dp5.full q (List.mem_of_getElem? hq)
    have HX5 := Lib.hid (And.intro hX5 (And.intro (ball H5.out.2 (.cells #[.int .u8 a, .int .u16 b, .int .u32 d] 57)) hql))
    have HC5 := Lib.hid hb50
    have hz5 : (w5.alloc (.cells #[.int .u8 a, .int .u16 b, .int .u32 d] 57)).heap.size = w5.heap.size + 1 := by simp
    clear pa5 hlt5 hb50 dp5 hX5 hql hq
    go_wp2_with fail
    refine RD.out.mono ?_
    rintro e w6 ⟨rfl, hB6, hb6⟩
    have HC6 := Lib.hid (bto0 HC5.out hb6)
    rw [hz5] at hB6
    clear hz5
    have cv := (reads_bv hB6 HX5.out.2.2).cnv (c := 512)
    have RG := Lib.hid (rhget_any q (by rw [HX5.out.2.2]; omega) w6)
    have hX6 := HX5.out.1.below hb6 HX5.out.1.lt
    have H6 := Lib.hid (And.intro hX6 (And.intro hB6 (bto0 HX5.out.2.1 hb6)))
    clear hB6 hb6 hX6 RD
    go_wp2_with fail
    refine RG.out.mono ?_
    rintro e w7 ⟨rfl, hb7⟩
    have HC7 := Lib.hid (bto0 HC6.out hb7)
    have hX7 := H6.out.1.below hb7 H6.out.1.lt
    have hB7 := H6.out.2.1.below hb7 H6.out.2.1.lt
    have H7 := Lib.hid (And.intro hX7 (And.intro hB7 (bto0 H6.out.2.2 hb7)))
    clear hX7 hB7 hb7 RG cv
    rw [HVV.out.1, HVV.out.2, HABD.out.1, HABD.out.2.1, HABD.out.2.2]
    have hX8 := H7.out.1.alloc (.cells #[.int .u8 a, .int .u16 b, .int .u32 d] 57)
    have hb8 := ball H7.out.2.2 (.cells #[.int .u8 a, .int .u16 b, .int .u32 d] 57)
    have hc8 := ball HC7.out (.cells #[.int .u8 a, .int .u16 b, .int .u32 d] 57)
    have hY8 := Blk.new w7 57 #[.int .u8 a, .int .u16 b, .int .u32 d]
    have hB8 := H7.out.2.1.alloc (.cells #[.int .u8 a, .int .u16 b, .int .u32 d] 57)
    have H8 := Lib.hid (And.intro hX8 (And.intro hb8 (And.intro hY8 (And.intro hB8 hc8))))
    clear hX8 hb8 hY8 hB8 hc8
    have e7 : (a != a) = false := by simp
    go_wp2_with fail
    refine (F.out _).mono ?_
    rintro e w9 ⟨rfl, hb9⟩
    have hX9 := H8.out.1.below hb9 H8.out.1.lt
    have c0 := hX9.cell 0; have c1 := hX9.cell 1; have c2 := hX9.cell 2
    have hY9 := H8.out.2.2.1.below hb9 H8.out.2.2.1.lt
    have y0 := hY9.cell 0; have y1 := hY9.cell 1; have y2 := hY9.cell 2
    have cv1 := (reads_bv (H8.out.2.2.2.1.below hb9 H8.out.2.2.2.1.lt) HX5.out.2.2).cnv (c := 512)
    have cv2 := (HO.out.reads.1.below (bto0 H8.out.2.2.2.2 hb9)).cnv (c := c5)
    have HE := Lib.hid (bto0 H8.out.2.1 hb9)
    clear hX9 hb9 hY9
    go_wp2
    go_ret
    exact ⟨rfl, HE.out⟩
theorem lawHeadsP_any (pages p k : Int) (A : Option Addr) (m c : Nat) (L : List UInt8) (w : World) (hp : 0 ≤ p ∧ p ≤ 4294967295) (hm : m ≤ maxLen) (hr : Reads w w.heap.size 1 A m (bL L)) :
    Calls Try.prog 9 #[.int .i64 pages, .int .u32 p, .int .u8 k, .slice A m c] w (RetB w (.bool true)) := by
  unfold maxLen at hm
  by_cases h : pages < 1 ∨ 20 < pages ∨ 512 < m
  · exact lawHeadsP_out pages p k A m c w h hm
  · obtain ⟨n, rfl⟩ : ∃ n : Nat, pages = n := ⟨pages.toNat, by omega⟩
    obtain ⟨q, rfl⟩ : ∃ q : Nat, p = q := ⟨p.toNat, by omega⟩
    exact lawHeadsP_in n q k A m c L w (by omega) (by omega) (by omega) (by omega) hr
end Go.Proofs.Ytcpbkaeilmabaaa
