/-
  Yf Yg Yn Yo Zh Za.
-/
import Derived.Test.YtebobcbaloddaaaGreatMoaj
import Derived.Test.YtebobcbaloddaaaGreatMoay
import Derived.Test.YtebobcbaloddaaaGreatMoam
import Derived.IntWalk
import Derived.BigGuardPart
namespace Go.Proofs.YtebobcbaloddaaaGreat
section
set_option linter.unusedSimpArgs false
set_option linter.unusedVariables false
open Go.RowKit
def RetOwn (w : World) (base : Nat) (l : List UInt8) (e : Ending) (w' : World) : Prop := ∃ v', e = .returned v' ∧ Own w' base v' l ∧ Keeps base w w'
theorem shr_any {U d : Nat} : (U : Int) / 2 ^ (8 * d) % 256 = ((UInt8.ofNat (U / 256 ^ d)).toNat : Int) := by
 have h2 : (2 : Int) ^ (8 * d) = ((256 ^ d : Nat) : Int) := by
  rw [Int.pow_mul, Int.natCast_pow]
  rfl
 rw [h2, u8_nat, Int.natCast_ediv]
set_option maxRecDepth 100000 in
set_option maxHeartbeats 2000000 in
theorem putNum4_any (U : Nat) (hU : U < 4294967296) (sv : Value) (l : List UInt8) (w : World) (base : Nat) (hown : Own w base sv l) (hb : base ≤ w.heap.size) (hlen : l.length ≤ 100000000) :
 Calls Tryz.prog 88 #[sv, .int .i64 4, .int .u32 U] w (RetOwn w base (l ++ be 4 U)) := by
 have hU0 : (0 : Int) ≤ (U : Int) := by omega
 clear hU
 go_enter Tryz.func88, Tryz.ntmps88
 go_wp2
 go_loopw [0, 9] (fun bv iv wr => ∃ j : Nat, j ≤ 4 ∧ iv = .int .i64 j ∧ Own wr base bv (l ++ (be 4 U).take j) ∧ Keeps base w wr) (fun _ iv _ => 4 - (intOf iv).toNat)
 case atStart => exact ⟨0, by omega, rfl, by rw [List.take_zero, List.append_nil]; exact hown, Keeps.refl _ _⟩
 case round =>
  obtain ⟨j, hj, rfl, hown2, hkp⟩ := hrel
  have q0 : (0 : Int) ≤ (j : Int) := by omega
  have hbr := Nat.le_trans hb hkp.size
  by_cases hlt : j < 4
  · have q1 : (j : Int) < 4 := by omega
    have hl2 : (l ++ (be 4 U).take j).length ≤ 100000020 := by simp [be_len]; omega
    have hj4 : j = 0 ∨ j = 1 ∨ j = 2 ∨ j = 3 := by omega
    have HN := Lib.hid (be_take 4 U j hlt)
    have b0 : (U : Int) / 2 ^ 24 % 256 = ((UInt8.ofNat (U / 256 ^ 3)).toNat : Int) := shr_any (d := 3)
    have b1 : (U : Int) / 2 ^ 16 % 256 = ((UInt8.ofNat (U / 256 ^ 2)).toNat : Int) := shr_any (d := 2)
    have b2 : (U : Int) / 2 ^ 8 % 256 = ((UInt8.ofNat (U / 256 ^ 1)).toNat : Int) := shr_any (d := 1)
    have b3 : (U : Int) % 256 = ((UInt8.ofNat (U / 256 ^ 0)).toNat : Int) := by have := shr_any (U := U) (d := 0); rw [Nat.mul_zero, Int.pow_zero, Int.ediv_one] at this; exact this
    have HB := Lib.hid (And.intro b0 (And.intro b1 (And.intro b2 b3)))
    clear b0 b1 b2 b3
    rcases hj4 with rfl | rfl | rfl | rfl
    · go_wp2_with (at_builtin; refine wpList_pushB rfl _ _ rfl base u0 _ (UInt8.ofNat (U / 256 ^ 3)) _ rfl hown2 _ rfl rfl HB.out.1 (by omega) hbr ?_; intro v2 w2 own2 kp2)
      go_roundw
      case rel => exact ⟨1, by omega, rfl, by rw [HN.out]; simpa using own2, hkp.trans kp2⟩
      case measure => simp [intOf]
    · go_wp2_with (at_builtin; refine wpList_pushB rfl _ _ rfl base u0 _ (UInt8.ofNat (U / 256 ^ 2)) _ rfl hown2 _ rfl rfl HB.out.2.1 (by omega) hbr ?_; intro v2 w2 own2 kp2)
      go_roundw
      case rel => exact ⟨2, by omega, rfl, by rw [HN.out]; simpa using own2, hkp.trans kp2⟩
      case measure => simp [intOf]
    · go_wp2_with (at_builtin; refine wpList_pushB rfl _ _ rfl base u0 _ (UInt8.ofNat (U / 256 ^ 1)) _ rfl hown2 _ rfl rfl HB.out.2.2.1 (by omega) hbr ?_; intro v2 w2 own2 kp2)
      go_roundw
      case rel => exact ⟨3, by omega, rfl, by rw [HN.out]; simpa using own2, hkp.trans kp2⟩
      case measure => simp [intOf]
    · go_wp2_with (at_builtin; refine wpList_pushB rfl _ _ rfl base u0 _ (UInt8.ofNat (U / 256 ^ 0)) _ rfl hown2 _ rfl rfl HB.out.2.2.2 (by omega) hbr ?_; intro v2 w2 own2 kp2)
      go_roundw
      case rel => exact ⟨4, by omega, rfl, by rw [HN.out]; simpa using own2, hkp.trans kp2⟩
      case measure => simp [intOf]
  · obtain rfl : j = 4 := by omega
    have hT : (be 4 U).take 4 = be 4 U := List.take_of_length_le (by rw [be_len]; exact Nat.le_refl _)
    rw [hT] at hown2
    clear hT
    go_wp2
    go_ret
    exact ⟨_, rfl, hown2, hkp⟩
set_option maxHeartbeats 2000000 in
theorem putNum2_any (U : Nat) (hU : U < 4294967296) (sv : Value) (l : List UInt8) (w : World) (base : Nat) (hown : Own w base sv l) (hb : base ≤ w.heap.size) (hlen : l.length ≤ 100000000) :
 Calls Tryz.prog 88 #[sv, .int .i64 2, .int .u32 U] w (RetOwn w base (l ++ be 2 U)) := by
 have hU0 : (0 : Int) ≤ (U : Int) := by omega
 clear hU
 go_enter Tryz.func88, Tryz.ntmps88
 go_wp2
 go_loopw [0, 9] (fun bv iv wr => ∃ j : Nat, j ≤ 2 ∧ iv = .int .i64 j ∧ Own wr base bv (l ++ (be 2 U).take j) ∧ Keeps base w wr) (fun _ iv _ => 2 - (intOf iv).toNat)
 case atStart => exact ⟨0, by omega, rfl, by rw [List.take_zero, List.append_nil]; exact hown, Keeps.refl _ _⟩
 case round =>
  obtain ⟨j, hj, rfl, hown2, hkp⟩ := hrel
  have q0 : (0 : Int) ≤ (j : Int) := by omega
  have hbr := Nat.le_trans hb hkp.size
  by_cases hlt : j < 2
  · have q1 : (j : Int) < 2 := by omega
    have hl2 : (l ++ (be 2 U).take j).length ≤ 100000020 := by simp [be_len]; omega
    have hj4 : j = 0 ∨ j = 1 := by omega
    have HN := Lib.hid (be_take 2 U j hlt)
    have b2 : (U : Int) / 2 ^ 8 % 256 = ((UInt8.ofNat (U / 256 ^ 1)).toNat : Int) := shr_any (d := 1)
    have b3 : (U : Int) % 256 = ((UInt8.ofNat (U / 256 ^ 0)).toNat : Int) := by have := shr_any (U := U) (d := 0); rw [Nat.mul_zero, Int.pow_zero, Int.ediv_one] at this; exact this
    have HB := Lib.hid (And.intro b2 b3)
    clear b2 b3
    rcases hj4 with rfl | rfl
    · go_wp2_with (at_builtin; refine wpList_pushB rfl _ _ rfl base u0 _ (UInt8.ofNat (U / 256 ^ 1)) _ rfl hown2 _ rfl rfl HB.out.1 (by omega) hbr ?_; intro v2 w2 own2 kp2)
      go_roundw
      case rel => exact ⟨1, by omega, rfl, by rw [HN.out]; simpa using own2, hkp.trans kp2⟩
      case measure => simp [intOf]
    · go_wp2_with (at_builtin; refine wpList_pushB rfl _ _ rfl base u0 _ (UInt8.ofNat (U / 256 ^ 0)) _ rfl hown2 _ rfl rfl HB.out.2 (by omega) hbr ?_; intro v2 w2 own2 kp2)
      go_roundw
      case rel => exact ⟨2, by omega, rfl, by rw [HN.out]; simpa using own2, hkp.trans kp2⟩
      case measure => simp [intOf]
  · obtain rfl : j = 2 := by omega
    have hT : (be 2 U).take 2 = be 2 U := List.take_of_length_le (by rw [be_len]; exact Nat.le_refl _)
    rw [hT] at hown2
    clear hT
    go_wp2
    go_ret
    exact ⟨_, rfl, hown2, hkp⟩
end
end Go.Proofs.YtebobcbaloddaaaGreat
namespace Go.Proofs.YtebobcbaloddaaaGreat
section
set_option linter.unusedSimpArgs false
set_option linter.unusedVariables false
open Go.RowKit
def enL (e : En) : List UInt8 := be 2 e.s.size ++ e.s.data.toList ++ be 4 e.p.toNat ++ be 2 e.q.toNat
theorem enL_len (e : En) : (enL e).length = 8 + e.s.size := by
 unfold enL
 have : e.s.data.toList.length = e.s.size := rfl
 simp only [List.length_append, be_len]
 omega
set_option maxHeartbeats 2000000 in
theorem putEntry_any (e : En) (he : e.ok) (hs : e.s.size ≤ 10000) (sv : Value) (l : List UInt8) (w : World) (base : Nat) (hown : Own w base sv l) (hb : base ≤ w.heap.size) (hlen : l.length ≤ 1000000) :
 Calls Tryz.prog 82 #[sv, e.agg] w (RetOwn w base (l ++ enL e)) := by
 obtain ⟨s, p, q⟩ := e
 obtain ⟨_, ⟨hp0, hp1⟩, ⟨hq0, hq1⟩⟩ := he
 simp only at hp0 hp1 hq0 hq1 hs
 obtain ⟨P, rfl⟩ : ∃ P : Nat, p = (P : Int) := ⟨p.toNat, by omega⟩
 obtain ⟨Q, rfl⟩ : ∃ Q : Nat, q = (Q : Int) := ⟨q.toNat, by omega⟩
 have hsI : (s.size : Int) ≤ 10000 := by omega
 have hen : enL ⟨s, P, Q⟩ = be 2 s.size ++ s.data.toList ++ be 4 P ++ be 2 Q := rfl
 have HE := Lib.hid hen; clear hen
 have hb1 : base ≤ (w.alloc (.cells #[.string s, .int .u32 (P : Int), .int .u16 (Q : Int)] 37)).heap.size := by simp; omega
 have X1 := Blk.new w 37 #[.string s, .int .u32 (P : Int), .int .u16 (Q : Int)]
 have own1 := hown.alloc (.cells #[.string s, .int .u32 (P : Int), .int .u16 (Q : Int)] 37)
 have kp1 : Keeps base w (w.alloc (.cells #[.string s, .int .u32 (P : Int), .int .u16 (Q : Int)] 37)) := Keeps.alloc_ hb _
 have HP : Hid ((P : Nat) < 4294967296 ∧ (Q : Nat) < 4294967296) := Lib.hid ⟨by omega, by omega⟩
 have HQ : Hid ((Q : Int) ≤ 65535) := Lib.hid hq1
 have N1 := Lib.hid (putNum2_any s.size (by omega) sv l _ base own1 hb1 (by omega))
 have hll : (l ++ be 2 s.size).length ≤ 1000002 := by simp [be_len]; omega
 have hsl : s.data.toList.length = s.size := rfl
 clear hp1
 go_enter Tryz.func82, Tryz.ntmps82
 go_wp2_with fail
 refine N1.out.mono ?_
 rintro e w2 ⟨v2, rfl, own2, kp2⟩
 have X2 := kp2.blk _ _ _ (by decide) X1
 have c0 := X2.cell 0
 have hb2 := Nat.le_trans hb1 kp2.size
 go_wp2_with (first
  | (at_builtin; refine wpList_appS rfl _ _ rfl base v2 _ s rfl own2 rfl (by omega) hb2 ?_; intro v3 w3 own3 kp3; have X3 := kp3.blk _ _ _ (by decide) X2; have c1 := X3.cell 1; have hb3 := Nat.le_trans hb2 kp3.size))
 refine (putNum4_any P HP.out.1 v3 _ w3 base own3 hb3 (by simp only [List.length_append] at hll ⊢; omega)).mono ?_
 rintro e w4 ⟨v4, rfl, own4, kp4⟩
 have X4 := kp4.blk _ _ _ (by decide) X3
 have c2 := X4.cell 2
 have hb4 := Nat.le_trans hb3 kp4.size
 go_wp2_with fail
 refine (putNum2_any Q HP.out.2 v4 _ w4 base own4 hb4 (by simp only [List.length_append, be_len] at hll ⊢; omega)).mono ?_
 rintro e w5 ⟨v5, rfl, own5, kp5⟩
 go_wp2
 go_ret
 exact ⟨_, rfl, by rw [HE.out]; simpa using own5, (((kp1.trans kp2).trans kp3).trans kp4).trans kp5⟩
def mayEn (l : List En) : Bool := (l.all fun e => decide (e.s.size ≤ 200)) && riseE l
set_option maxHeartbeats 1000000 in
theorem mayE_any (A : Option Addr) (n c : Nat) (l : List En) (w : World) (hr : Reads w w.heap.size 3 A n (vE l)) (hn : n ≤ 1000000) :
 Calls Tryz.prog 80 #[.slice A n c] w (RetB w (.bool (mayEn l))) := by
 have hl : l.length = n := by have := hr.1; rw [vE_len] at this; omega
 have Hl := Lib.hid hl; clear hl
 have hnI : (n : Int) ≤ 1000000 := by omega
 have R := Lib.hid fun (W : World) (hb : Below w.heap.size w W) => riseE_any A n c l W ((hr.below hb).more hb.size) hn
 go_enter Tryz.func80, Tryz.ntmps80
 go_wp2
 go_loopw [7] (fun i wr => ∃ k : Nat, k ≤ n ∧ i = .int .i64 k ∧ ((l.take k).all fun e => decide (e.s.size ≤ 200)) = true ∧ Below w.heap.size w wr) (fun i _ => n - (intOf i).toNat)
 case atStart => exact ⟨0, Nat.zero_le _, rfl, rfl, Below.refl _ _⟩
 case round =>
  obtain ⟨k, hk, rfl, ha, hb⟩ := hrel
  have Ha := Lib.hid ha; clear ha
  have q0 : (0 : Int) ≤ (k : Int) := by omega
  by_cases hlt : k < n
  · have q1 : (k : Int) < (n : Int) := by omega
    obtain ⟨ad, v, rfl, hab, hv, d0, d1, d2⟩ := (hr.below hb).ent hlt
    have Hv := Lib.hid hv; clear hv
    obtain ⟨s, p, q⟩ := v
    simp only at d0 d1 d2
    by_cases h2 : s.size ≤ 200
    · have g2 : (s.size : Int) ≤ 200 := by omega
      have HA : Hid (((l.take (k + 1)).all fun e => decide (e.s.size ≤ 200)) = true) := Lib.hid (by rw [List.take_add_one, Hv.out, List.all_append, Ha.out]; simp [h2])
      go_wp2
      go_roundw
      case rel => exact ⟨k + 1, by omega, by go_num, HA.out, ball hb _⟩
      case measure => simp [intOf]; omega
    · have g2 : (200 : Int) < (s.size : Int) := by omega
      have HF : Hid (mayEn l = false) := Lib.hid (by
       unfold mayEn
       have : (l.all fun e => decide (e.s.size ≤ 200)) = false := by
        rw [Bool.eq_false_iff]
        intro h
        rw [List.all_eq_true] at h
        have := h _ (List.mem_of_getElem? Hv.out)
        simp only [decide_eq_true_iff] at this
        exact h2 this
       rw [this]; rfl)
      go_wp2
      go_ret
      exact ⟨by rw [HF.out]; rfl, ball hb _⟩
  · obtain rfl : k = n := by omega
    have hT : l.take k = l := List.take_of_length_le (by rw [Hl.out]; exact Nat.le_refl _)
    have HM : Hid (mayEn l = riseE l) := Lib.hid (by have := Ha.out; rw [hT] at this; unfold mayEn; rw [this]; rfl)
    clear hT
    go_wp2_with fail
    refine (R.out _ (by first | exact hb | exact bdr hb _)).mono ?_
    rintro e w1 ⟨rfl, hb1⟩
    go_wp2
    go_ret
    exact ⟨by rw [HM.out]; rfl, by first | exact bto0 hb hb1 | exact bto0 (bdr hb _) hb1⟩
end
end Go.Proofs.YtebobcbaloddaaaGreat
namespace Go.Proofs.YtebobcbaloddaaaGreat
section
set_option linter.unusedSimpArgs false
set_option linter.unusedVariables false
open Go.RowKit
def sumE (l : List En) : Nat := (l.map fun e => 8 + e.s.size).sum
theorem sumE_take {l : List En} {k : Nat} {v : En} (h : l[k]? = some v) : sumE (l.take (k + 1)) = sumE (l.take k) + (8 + v.s.size) := by
 unfold sumE; rw [List.take_add_one, h]; simp
theorem sumE_len : ∀ l : List En, (l.flatMap enL).length = sumE l
 | [] => rfl
 | e :: l => by
   rw [List.flatMap_cons, List.length_append, enL_len, sumE_len l]
   unfold sumE
   simp
theorem sumE_eq : ∀ l : List En, sumE l = 8 * l.length + (l.map fun e => e.s.size).sum
 | [] => rfl
 | e :: l => by
   have ih := sumE_eq l
   unfold sumE at ih ⊢
   simp only [List.map_cons, List.sum_cons, List.length_cons, ih]
   omega
theorem sumE_mono (l : List En) (k : Nat) : sumE (l.take k) ≤ sumE l := by
 have h : sumE l = sumE (l.take k) + sumE (l.drop k) := by
  unfold sumE
  conv => lhs; rw [← List.take_append_drop k l]
  rw [List.map_append, List.sum_append]
 omega
set_option maxHeartbeats 1000000 in
theorem leafSize_any (A : Option Addr) (n c : Nat) (l : List En) (w : World) (hr : Reads w w.heap.size 3 A n (vE l)) (hsz : sumE l ≤ 72000) :
 Calls Tryz.prog 79 #[.slice A n c] w (RetB w (.int .i64 (8 + (sumE l : Int)))) := by
 have hl : l.length = n := by have := hr.1; rw [vE_len] at this; omega
 have Hl := Lib.hid hl; clear hl
 go_enter Tryz.func79, Tryz.ntmps79
 go_wp2
 go_loopw [3, 8] (fun m i wr => ∃ k : Nat, k ≤ n ∧ i = .int .i64 k ∧ m = .int .i64 (8 + (sumE (l.take k) : Int)) ∧ Below w.heap.size w wr) (fun _ i _ => n - (intOf i).toNat)
 case atStart => exact ⟨0, Nat.zero_le _, rfl, rfl, Below.refl _ _⟩
 case round =>
  obtain ⟨k, hk, rfl, rfl, hb⟩ := hrel
  have q0 : (0 : Int) ≤ (k : Int) := by omega
  by_cases hlt : k < n
  · have q1 : (k : Int) < (n : Int) := by omega
    have hkn : (k : Int) ≤ 1000000 := by
     have h1 := sumE_eq l
     have h2 := Hl.out
     omega
    obtain ⟨ad, v, rfl, hab, hv, d0, d1, d2⟩ := (hr.below hb).ent hlt
    have HS := Lib.hid (sumE_take hv)
    have hmo := sumE_mono l (k + 1)
    rw [HS.out] at hmo
    clear hv
    obtain ⟨s, p, q⟩ := v
    simp only at d0 d1 d2 HS hmo
    obtain ⟨T, hT⟩ : ∃ T, sumE (l.take k) = T := ⟨_, rfl⟩
    rw [hT] at HS hmo ⊢
    clear hT
    have t0 : (0 : Int) ≤ (T : Int) := by omega
    have t1 : (T : Int) + (s.size : Int) ≤ 72000 := by omega
    have t2 : (0 : Int) ≤ (s.size : Int) := by omega
    clear hmo hsz
    go_wp2
    go_roundw
    case rel => exact ⟨k + 1, by omega, by go_num, val_int (by rw [HS.out]; omega), ball hb _⟩
    case measure => simp [intOf]; omega
  · obtain rfl : k = n := by omega
    have hT : Hid (sumE (l.take k) = sumE l) := Lib.hid (by rw [List.take_of_length_le (by rw [Hl.out]; exact Nat.le_refl _)])
    go_wp2
    go_ret
    exact ⟨by rw [hT.out]; rfl, hb⟩
end
end Go.Proofs.YtebobcbaloddaaaGreat
namespace Go.Proofs.YtebobcbaloddaaaGreat
section
set_option linter.unusedSimpArgs false
set_option linter.unusedVariables false
open Go.RowKit
theorem Own.cutHead {w : World} {g m base : Nat} {L : List UInt8} (h : Blk w g 5 (bV L)) (hL : L.length = 512) (hm : m ≤ 512) (hb : base ≤ g) : Own w base (.slice (some ⟨g, 0, none⟩) m 512) (L.take m) := by
 have e : (L.take m).length = m := by rw [List.length_take]; omega
 unfold Own
 rw [e]
 refine ⟨by rw [bL_len, e]; omega, .inr ⟨g, 512, bV L, rfl, hb, h, hm, by decide, by rw [bV_size, hL], ?_⟩⟩
 rw [bV_toList, Nat.mul_one]
 simp [bL, List.map_take]
theorem headL_len (k : UInt8) (c n : Nat) : (headL k c n).length = 512 := headP_len k c n 4 (by omega)
def RetO (w : World) (l : List UInt8) (e : Ending) (w' : World) : Prop := ∃ v', e = .returned v' ∧ Own w' w.heap.size v' l ∧ Below w.heap.size w w'
theorem begin_any11 (k : UInt8) (x : Int) (hx : x = (k.toNat : Int)) (c n : Nat) (hc : c ≤ 60000) (hn : n < 4294967296) (w : World) :
 Calls Tryz.prog 81 #[.int .u8 x, .int .i64 c, .int .u32 n] w (RetO w ((headL k c n).take 8)) := by
 have H := Lib.hid fun W => dput_any k c n (by omega) hn W
 rw [← hx] at H
 have hcI : (c : Int) ≤ 60000 := by omega
 have hc0 : (0 : Int) ≤ (c : Int) := by omega
 clear hx hc hn
 go_enter Tryz.func81, Tryz.ntmps81
 go_wp2_with fail
 refine (H.out _).mono ?_
 rintro e w1 ⟨g, rfl, hB, hg, hb1⟩
 go_wp2
 go_ret
 exact ⟨_, rfl, Own.cutHead hB (headL_len _ _ _) (by omega) hg, hb1⟩
theorem fill_any11 (sv : Value) (l : List UInt8) (w : World) (base : Nat) (hown : Own w base sv l) (hb : base ≤ w.heap.size) (hlen : l.length ≤ 512) :
 Calls Tryz.prog 83 #[sv] w (RetOwn w base (l ++ List.replicate (512 - l.length) 0)) := by
 obtain ⟨A, c, rfl, hc⟩ := hown.form
 have q0 : (l.length : Int) ≤ 512 := by omega
 go_enter Tryz.func83, Tryz.ntmps83
 go_wp2_with (at_builtin; refine wpList_appZ rfl _ _ rfl base _ l (512 - l.length) _ rfl hown rfl (by omega) (by omega) hb ?_; intro v1 w1 own1 kp1)
 go_ret
 exact ⟨_, rfl, own1, kp1⟩
def leafL (next : Nat) (l : List En) : List UInt8 := ((headL 2 l.length next).take 8 ++ l.flatMap enL) ++ List.replicate (512 - (8 + sumE l)) 0
def RetLf (w : World) (l : List UInt8) (e : Ending) (w' : World) : Prop := ∃ v', e = .returned (.tuple #[v', .int .i64 0]) ∧ Own w' w.heap.size v' l ∧ Below w.heap.size w w'
set_option maxHeartbeats 2000000 in
theorem putLeaf_ok (next : Nat) (hnx : next < 4294967296) (A : Option Addr) (n c : Nat) (l : List En) (w : World) (hr : Reads w w.heap.size 3 A n (vE l)) (hok : ∀ e ∈ l, e.ok) (hm : mayEn l = true) (hf : sumE l ≤ 504) :
 Calls Tryz.prog 50 #[.int .u32 next, .slice A n c] w (RetLf w (leafL next l)) := by
 have hl : l.length = n := by have := hr.1; rw [vE_len] at this; omega
 have hnn : n ≤ 63 := by have := sumE_eq l; omega
 have hnI : (n : Int) ≤ 63 := by omega
 have M := mayE_any A n c l w hr (by omega)
 have S := Lib.hid fun (W : World) (hb : Below w.heap.size w W) => leafSize_any A n c l W ((hr.below hb).more hb.size) (by omega)
 rw [hm] at M
 have HM := Lib.hid M; clear M hm
 have BG := Lib.hid fun W => begin_any11 2 2 rfl n next (by omega) hnx W
 have Hl := Lib.hid hl; clear hl
 have Hf := Lib.hid hf
 obtain ⟨T, hT⟩ : ∃ T, sumE l = T := ⟨_, rfl⟩
 rw [hT] at S hf
 have HT := Lib.hid hT; clear hT
 have q0 : 8 + (T : Int) ≤ 512 := by omega
 have h8 : ((headL 2 n next).take 8).length = 8 := by rw [List.length_take, headL_len]; rfl
 obtain ⟨H8, hH8⟩ : ∃ H8, (headL 2 n next).take 8 = H8 := ⟨_, rfl⟩
 rw [hH8] at BG h8
 have HH := Lib.hid hH8; clear hH8 hnx
 go_enter Tryz.func50, Tryz.ntmps50
 go_wp2_with fail
 refine HM.out.mono ?_
 rintro e w1 ⟨rfl, hb1⟩
 go_wp2_with fail
 refine (S.out _ (by (with_reducible repeat (first | exact Below.refl _ _ | exact hb1 | refine bto0 ?_ hb1 | refine bdr ?_ _ | refine Below.drew ?_ | refine ball ?_ _)))).mono ?_
 rintro e w2 ⟨rfl, hb2⟩
 go_wp2_with fail
 refine (BG.out _).mono ?_
 rintro e w3 ⟨v3, rfl, own3, hb3⟩
 have hw2 : Below w.heap.size w w2 := by (with_reducible repeat (first | exact Below.refl _ _ | exact hb2 | exact hb1 | refine bto0 ?_ hb2 | refine bto0 ?_ hb1 | refine bdr ?_ _ | refine Below.drew ?_ | refine ball ?_ _))
 have own3' := own3.less hw2.size
 have hw3 : Below w.heap.size w w3 := by (with_reducible repeat (first | exact Below.refl _ _ | exact hb3 | exact hb2 | exact hb1 | refine bto0 ?_ hb3 | refine bto0 ?_ hb2 | refine bto0 ?_ hb1 | refine bdr ?_ _ | refine Below.drew ?_ | refine ball ?_ _))
 clear hb1 hb2 hb3 own3 hw2
 go_wp2_with fail
 go_loopw [6, 21] (fun bv iv wr => ∃ k : Nat, k ≤ n ∧ iv = .int .i64 k ∧ Own wr w.heap.size bv (H8 ++ (l.take k).flatMap enL) ∧ Below w.heap.size w wr) (fun _ iv _ => n - (intOf iv).toNat)
 case atStart => exact ⟨0, by omega, rfl, by simpa using own3', hw3⟩
 case round =>
  obtain ⟨k, hk, rfl, hown, hb⟩ := hrel
  have r0 : (0 : Int) ≤ (k : Int) := by omega
  have hbs := hb.size
  have hlk : (H8 ++ (l.take k).flatMap enL).length ≤ 512 := by
   have h1 := sumE_mono l k
   have h2 := sumE_len (l.take k)
   have h3 := HT.out
   rw [List.length_append, h8]
   omega
  by_cases hlt : k < n
  · have r1 : (k : Int) < (n : Int) := by omega
    obtain ⟨ad, v, rfl, hab, hv, d0, d1, d2⟩ := (hr.below hb).ent hlt
    have hvok := hok v (List.mem_of_getElem? hv)
    have hvs : v.s.size ≤ 504 := by
     have h1 := sumE_take hv
     have h2 := sumE_mono l (k + 1)
     have h3 := HT.out
     omega
    have hfl : Hid ((l.take (k + 1)).flatMap enL = (l.take k).flatMap enL ++ enL v) := Lib.hid (by rw [List.take_add_one, hv]; simp)
    have own1 := hown.alloc (.cells #[.string v.s, .int .u32 v.p, .int .u16 v.q] 37)
    have hbs1 : w.heap.size ≤ (wr.alloc (.cells #[.string v.s, .int .u32 v.p, .int .u16 v.q] 37)).heap.size := by simp; omega
    have PE := Lib.hid (putEntry_any v hvok (by omega) u6 _ _ w.heap.size own1 hbs1 (by omega))
    clear hv hvok hvs own1
    obtain ⟨s, p, q⟩ := v
    unfold En.agg at PE
    simp only at d0 d1 d2 PE
    go_wp2_with fail
    refine PE.out.mono ?_
    rintro e w4 ⟨v4, rfl, own4, kp4⟩
    go_wp2
    go_roundw
    case rel => exact ⟨k + 1, by omega, by go_num, by rw [hfl.out, ← List.append_assoc]; exact own4, kp4.below _ _ (Nat.le_refl _) (ball hb _)⟩
    case measure => simp [intOf]; omega
  · obtain rfl : k = n := by omega
    have hT : l.take k = l := List.take_of_length_le (by rw [Hl.out]; exact Nat.le_refl _)
    rw [hT] at hown hlk
    have hfin : Hid (leafL next l = (H8 ++ l.flatMap enL) ++ List.replicate (512 - (H8 ++ l.flatMap enL).length) 0) := Lib.hid (by
     unfold leafL
     rw [Hl.out, HH.out, List.length_append, h8, sumE_len])
    have FI := Lib.hid (fill_any11 u6 _ _ w.heap.size hown hbs hlk)
    clear hT
    go_wp2_with fail
    refine FI.out.mono ?_
    rintro e w4 ⟨v4, rfl, own4, kp4⟩
    go_wp2
    go_ret2
    exact ⟨_, rfl, by rw [hfin.out]; exact own4, kp4.below _ _ (Nat.le_refl _) hb⟩
end
end Go.Proofs.YtebobcbaloddaaaGreat
namespace Go.Proofs.YtebobcbaloddaaaGreat
section
set_option linter.unusedSimpArgs false
set_option linter.unusedVariables false
open Go.RowKit
def vN (l : List Nat) : List Value := l.map fun x : Nat => Value.int .u32 (x : Int)
theorem vN_len (l : List Nat) : (vN l).length = l.length := by simp [vN]
theorem Reads.num {w : World} {B n k : Nat} {A : Option Addr} {l : List Nat} (hr : Reads w B 1 A n (vN l)) (hk : k < n) : ∃ ad x, A = some ad ∧ ad.block < B ∧ l[k]? = some x ∧ w.cell? (ad.add k) = some (.int .u32 (x : Int)) := by
 obtain ⟨ad, u, e, hb, hu, hc⟩ := hr.at_ hk
 unfold vN at hu
 rw [List.getElem?_map] at hu
 obtain ⟨b, h1, rfl⟩ := Option.map_eq_some_iff.1 hu
 exact ⟨ad, b, e, hb, h1, hc⟩
theorem Reads.num_len {w : World} {B n : Nat} {A : Option Addr} {l : List Nat} (hr : Reads w B 1 A n (vN l)) : l.length = n := by have := hr.1; rw [vN_len] at this; omega
def inP (p : En × Nat) : List UInt8 := enL p.1 ++ be 4 p.2
def inB (ps : List (En × Nat)) : List UInt8 := ps.flatMap inP
def innL (c0 : Nat) (ps : List (En × Nat)) (n : Nat) : List UInt8 := (((headL 3 n 0).take 8 ++ be 4 c0) ++ inB ps) ++ List.replicate (512 - (12 + sumE (ps.map Prod.fst) + 4 * ps.length)) 0
theorem inB_len : ∀ ps : List (En × Nat), (inB ps).length = sumE (ps.map Prod.fst) + 4 * ps.length
 | [] => rfl
 | p :: ps => by
   have ih := inB_len ps
   unfold inB at ih ⊢
   rw [List.flatMap_cons, List.length_append, ih]
   unfold inP
   rw [List.length_append, enL_len, be_len]
   unfold sumE
   simp only [List.map_cons, List.sum_cons, List.length_cons]
   omega
theorem inB_take {ps : List (En × Nat)} {k : Nat} {p : En × Nat} (h : ps[k]? = some p) : inB (ps.take (k + 1)) = inB (ps.take k) ++ inP p := by
 unfold inB; rw [List.take_add_one, h]; simp
theorem zip_at {l : List En} {cs : List Nat} {k : Nat} {v : En} {x : Nat} (h1 : l[k]? = some v) (h2 : cs[k]? = some x) : (l.zip cs)[k]? = some (v, x) := by
 rw [List.getElem?_zip_eq_some]; exact ⟨h1, h2⟩
theorem zip_fst {l : List En} {cs : List Nat} (h : l.length ≤ cs.length) : (l.zip cs).map Prod.fst = l := List.map_fst_zip h
theorem zip_snd {l : List En} {cs : List Nat} (h : cs.length ≤ l.length) : (l.zip cs).map Prod.snd = cs := List.map_snd_zip h
theorem sumZ_mono (ps : List (En × Nat)) (k : Nat) : (inB (ps.take k)).length ≤ (inB ps).length := by
 have h : inB ps = inB (ps.take k) ++ inB (ps.drop k) := by unfold inB; rw [← List.flatMap_append, List.take_append_drop]
 rw [h, List.length_append]; omega
set_option maxHeartbeats 1000000 in
theorem innerSize_any (A : Option Addr) (n c : Nat) (l : List En) (w : World) (hr : Reads w w.heap.size 3 A n (vE l)) (hsz : sumE l ≤ 72000) :
 Calls Tryz.prog 86 #[.slice A n c] w (RetB w (.int .i64 (12 + (sumE l : Int) + 4 * (n : Int)))) := by
 have hl : l.length = n := by have := hr.1; rw [vE_len] at this; omega
 have hn : n ≤ 9000 := by have := sumE_eq l; omega
 have hnI : (n : Int) ≤ 9000 := by omega
 have S := Lib.hid (leafSize_any A n c l w hr hsz)
 have hs0 : (sumE l : Int) ≤ 72000 := by omega
 have hs1 : (0 : Int) ≤ (sumE l : Int) := by omega
 clear hl hsz
 generalize sumE l = T at *
 go_enter Tryz.func86, Tryz.ntmps86
 go_wp2_with fail
 refine S.out.mono ?_
 rintro e w1 ⟨rfl, hb1⟩
 go_wp2
 go_ret
 exact ⟨ret_int (by omega), hb1⟩
set_option maxHeartbeats 4000000 in
theorem putInner_ok (A0 : Option Addr) (c0 : Nat) (A : Option Addr) (n c : Nat) (l : List En) (ch0 : Nat) (cs : List Nat) (w : World) (hr : Reads w w.heap.size 3 A n (vE l)) (hr0 : Reads w w.heap.size 1 A0 (n + 1) (vN (ch0 :: cs))) (hok : ∀ e ∈ l, e.ok) (hch : ∀ x ∈ ch0 :: cs, x < 4294967296) (h2 : n ≠ 0) (hm : mayEn l = true) (hf : sumE l + 4 * n ≤ 500) :
 Calls Tryz.prog 54 #[.slice A0 (n + 1) c0, .slice A n c] w (RetLf w (innL ch0 (l.zip cs) n)) := by
 have hl : l.length = n := by have := hr.1; rw [vE_len] at this; omega
 have hcs : cs.length = n := by have := hr0.num_len; simpa using this
 have hnn : n ≤ 63 := by have := sumE_eq l; omega
 have hnI : (n : Int) ≤ 63 := by omega
 have hn0 : 0 < n := by omega
 have M := mayE_any A n c l w hr (by omega)
 rw [hm] at M
 have HM := Lib.hid M
 have S := fun (W : World) (hb : Below w.heap.size w W) => innerSize_any A n c l W ((hr.below hb).more hb.size) (by omega)
 have BG := Lib.hid fun W => begin_any11 3 3 rfl n 0 (by omega) (by omega) W
 have e1 : (((n + 1 : Nat) : Int) != (n : Int) + 1) = false := by simp
 have e2 : (((n + 1 : Nat) : Int) == (n : Int) + 1) = true := by simp
 have f1 : ((n : Int) == 0) = false := by simp; omega
 have f2 : (n == 0) = false := by simp; omega
 obtain ⟨Z, hZ⟩ : ∃ Z : Int, 12 + (sumE l : Int) + 4 * (n : Int) = Z := ⟨_, rfl⟩
 have hz : Z ≤ 512 := by omega
 rw [hZ] at S
 have HS := Lib.hid S
 have hzl : (l.zip cs).length = n := by rw [List.length_zip]; omega
 have hbl : (inB (l.zip cs)).length = sumE l + 4 * n := by rw [inB_len, zip_fst (by omega), hzl]
 have h8 : ((headL 3 n 0).take 8).length = 8 := by rw [List.length_take, headL_len]; rfl
 obtain ⟨H8, hH8⟩ : ∃ H8, (headL 3 n 0).take 8 = H8 := ⟨_, rfl⟩
 rw [hH8] at BG h8
 obtain ⟨ad0, x0, hA0, hab0, hx0, hc0⟩ := hr0.num (k := 0) (by omega)
 have hx0' : ch0 = x0 := by simpa using hx0
 subst hx0'
 have hch0 : ch0 < 4294967296 := hch ch0 (by simp)
 have PN0 := Lib.hid fun (sv : Value) (W : World) (own : Own W w.heap.size sv H8) (hb : w.heap.size ≤ W.heap.size) => putNum4_any ch0 hch0 sv H8 W w.heap.size own hb (by omega)
 have hcN : Hid (∀ k, k < n → ∃ v x, l[k]? = some v ∧ cs[k]? = some x ∧ x < 4294967296) := Lib.hid fun k hk => by
  have a1 : l[k]? = some (l[k]'(by omega)) := List.getElem?_eq_getElem (by omega)
  have a2 : cs[k]? = some (cs[k]'(by omega)) := List.getElem?_eq_getElem (by omega)
  exact ⟨_, _, a1, a2, hch _ (List.mem_cons_of_mem _ (List.mem_of_getElem? a2))⟩
 have hfin : Hid (innL ch0 (l.zip cs) n = ((H8 ++ be 4 ch0) ++ inB (l.zip cs)) ++ List.replicate (512 - ((H8 ++ be 4 ch0) ++ inB (l.zip cs)).length) 0) := Lib.hid (by
  unfold innL
  rw [hH8, zip_fst (by omega), hzl]
  simp only [List.length_append, h8, be_len, hbl]
  congr 3
  omega)
 have hmo := Lib.hid (sumZ_mono (l.zip cs))
 have Hzl := Lib.hid hzl
 have Hbl := Lib.hid hbl
 have H8l := Lib.hid h8
 clear M S hZ hH8 hch hx0 hch0 hzl hbl h8 hm
 have hr0' := hr0
 subst hA0
 have hw0 := Below.refl w.heap.size w
 go_enter Tryz.func54, Tryz.ntmps54
 go_wp2_with fail
 refine HM.out.mono ?_
 rintro e w1 ⟨rfl, hb1⟩
 go_wp2_with fail
 refine (HS.out _ (by (with_reducible repeat (first | exact Below.refl _ _ | exact hb1 | refine bto0 ?_ hb1 | refine bdr ?_ _ | refine Below.drew ?_ | refine ball ?_ _)))).mono ?_
 rintro e w2 ⟨rfl, hb2⟩
 go_wp2_with fail
 refine (BG.out _).mono ?_
 rintro e w3 ⟨v3, rfl, own3, hb3⟩
 have hw2 : Below w.heap.size w w2 := by (with_reducible repeat (first | exact Below.refl _ _ | exact hb2 | exact hb1 | refine bto0 ?_ hb2 | refine bto0 ?_ hb1 | refine bdr ?_ _ | refine Below.drew ?_ | refine ball ?_ _))
 have own3' := own3.less hw2.size
 have hw3 : Below w.heap.size w w3 := by (with_reducible repeat (first | exact Below.refl _ _ | exact hb3 | exact hb2 | exact hb1 | refine bto0 ?_ hb3 | refine bto0 ?_ hb2 | refine bto0 ?_ hb1 | refine bdr ?_ _ | refine Below.drew ?_ | refine ball ?_ _))
 have cz : w3.cell? ad0 = some (.int .u32 (ch0 : Int)) := by
  have := hw3.cell (p := ad0) (by omega)
  rw [this]
  simpa [Addr.add] using hc0
 clear hb1 hb2 hb3 own3 hw2 hc0
 go_wp2_with fail
 refine (PN0.out _ _ own3' hw3.size).mono ?_
 rintro e w4 ⟨v4, rfl, own4, kp4⟩
 have hw4 := kp4.below _ _ (Nat.le_refl _) hw3
 clear own3' hw3 kp4 cz
 go_wp2_with fail
 go_loopw [6, 38] (fun bv iv wr => ∃ k : Nat, k ≤ n ∧ iv = .int .i64 k ∧ Own wr w.heap.size bv ((H8 ++ be 4 ch0) ++ inB ((l.zip cs).take k)) ∧ Below w.heap.size w wr) (fun _ iv _ => n - (intOf iv).toNat)
 case atStart => exact ⟨0, by omega, rfl, by simpa [inB] using own4, hw4⟩
 case round =>
  clear own4 hw4
  obtain ⟨k, hk, rfl, hown, hb⟩ := hrel
  have r0 : (0 : Int) ≤ (k : Int) := by omega
  have hbs := hb.size
  have hlk : ((H8 ++ be 4 ch0) ++ inB ((l.zip cs).take k)).length ≤ 512 := by
   have h1 := hmo.out k
   have h2 := Hbl.out
   simp only [List.length_append, H8l.out, be_len]
   omega
  by_cases hlt : k < n
  · have r1 : (k : Int) < (n : Int) := by omega
    obtain ⟨v, x, hv, hx, hxb⟩ := hcN.out k hlt
    have hp := zip_at hv hx
    obtain ⟨ad, v', rfl, hab, hv', d0, d1, d2⟩ := (hr.below hb).ent hlt
    rw [hv] at hv'
    injection hv' with hv'
    subst hv'
    obtain ⟨ad1, x1, he1, hab1, hx1, cx⟩ := (hr0'.below hb).num (k := k + 1) (by omega)
    injection he1 with he1
    subst he1
    rw [List.getElem?_cons_succ, hx] at hx1
    injection hx1 with hx1
    subst hx1
    have hvok := hok v (List.mem_of_getElem? hv)
    have hfl := Lib.hid (inB_take hp)
    have hvs : v.s.size ≤ 504 := by
     have h1 := sumE_take hv
     have h2 := sumE_mono l (k + 1)
     omega
    have hlk2 : (((H8 ++ be 4 ch0) ++ inB ((l.zip cs).take k)) ++ enL v).length ≤ 2000 := by
     have := enL_len v
     simp only [List.length_append] at hlk ⊢
     omega
    have own1 := hown.alloc (.cells #[.string v.s, .int .u32 v.p, .int .u16 v.q] 37)
    have hbs1 : w.heap.size ≤ (wr.alloc (.cells #[.string v.s, .int .u32 v.p, .int .u16 v.q] 37)).heap.size := by simp; omega
    have PE := Lib.hid (putEntry_any v hvok (by omega) u6 _ _ w.heap.size own1 hbs1 (by omega))
    have PN := Lib.hid fun (sv : Value) (W : World) (own : Own W w.heap.size sv _) (hb : w.heap.size ≤ W.heap.size) => putNum4_any x hxb sv (((H8 ++ be 4 ch0) ++ inB ((l.zip cs).take k)) ++ enL v) W w.heap.size own hb (by omega)
    have hen : Hid (inP (v, x) = enL v ++ be 4 x) := Lib.hid rfl
    have hb1' : Below w.heap.size w (wr.alloc (.cells #[.string v.s, .int .u32 v.p, .int .u16 v.q] 37)) := ball hb _
    clear hv hvok hvs own1 hp hx hxb hlk hlk2
    obtain ⟨Y, hY⟩ : ∃ Y, enL v = Y := ⟨_, rfl⟩
    rw [hY] at PE PN hen
    clear hY
    obtain ⟨s, p, q⟩ := v
    unfold En.agg at PE
    simp only at d0 d1 d2 PE hb1'
    have hwr1 : IntKind.i64.wrap ((k : Int) + 1) = (k : Int) + 1 := IntWalk.i64_in _ (by omega)
    go_wp2_with fail
    refine PE.out.mono ?_
    rintro e w4 ⟨v4, rfl, own4, kp4⟩
    have hb4 := kp4.below _ _ (Nat.le_refl _) hb1'
    have cx4 : w4.cell? (ad0.add (k + 1)) = some (.int .u32 (x : Int)) := by
     have hbb := kp4.below _ _ (Nat.le_refl _) hb1'
     rw [hb4.cell (by rw [block_of_add]; omega)]
     rw [← cx, hb.cell (by rw [block_of_add]; omega)]
    have cx5 : w4.cell? ⟨ad0.block, ad0.off + (k + 1), none⟩ = some (.int .u32 (x : Int)) := by
     rw [← cx4]; congr 1
    clear cx
    go_wp2_with fail
    refine (PN.out _ _ own4 hb4.size).mono ?_
    rintro e w5 ⟨v5, rfl, own5, kp5⟩
    go_wp2
    go_roundw
    case rel => exact ⟨k + 1, by omega, by go_num, by rw [hfl.out, hen.out]; simpa only [List.append_assoc] using own5, kp5.below _ _ (Nat.le_refl _) hb4⟩
    case measure => simp [intOf]; omega
  · obtain rfl : k = n := by omega
    have hT : (l.zip cs).take k = l.zip cs := List.take_of_length_le (by rw [Hzl.out]; exact Nat.le_refl _)
    rw [hT] at hown hlk
    have FI := Lib.hid (fill_any11 u6 _ _ w.heap.size hown hbs hlk)
    clear hT
    go_wp2_with fail
    refine FI.out.mono ?_
    rintro e w4 ⟨v4, rfl, own4, kp4⟩
    go_wp2
    go_ret2
    exact ⟨_, rfl, by rw [hfin.out]; exact own4, kp4.below _ _ (Nat.le_refl _) hb⟩
end
end Go.Proofs.YtebobcbaloddaaaGreat
namespace Go.Proofs.YtebobcbaloddaaaGreat
section
set_option linter.unusedSimpArgs false
set_option linter.unusedVariables false
open Go.RowKit
set_option maxRecDepth 100000 in
set_option maxHeartbeats 4000000 in
theorem rriseE_any (A : Option Addr) (n c : Nat) (l : List En) (w : World) (hr : Reads w w.heap.size 3 A n (vE l)) (hn : n ≤ 1000000) :
 Calls Tryz.prog 72 #[.slice A n c] w (RetB w (.bool (riseE l))) := by
 have hl : l.length = n := by have := hr.1; rw [vE_len] at this; omega
 have Hl := Lib.hid hl; clear hl
 have hnI : (n : Int) ≤ 1000000 := by omega
 go_enter Tryz.func72, Tryz.ntmps72
 go_wp2
 go_loopw [6] (fun i wr => ∃ k : Nat, k ≤ n ∧ i = .int .i64 k ∧ riseE l = riseE (l.drop (k - 1)) ∧ Below w.heap.size w wr) (fun i _ => n - (intOf i).toNat)
 case atStart => exact ⟨0, Nat.zero_le _, rfl, rfl, Below.refl _ _⟩
 case round =>
  obtain ⟨k, hk, rfl, he, hb⟩ := hrel
  have hbs := hb.size
  have q0 : (0 : Int) ≤ (k : Int) := by omega
  by_cases hlt : k < n
  · have q2 : (k : Int) < (n : Int) := by omega
    rcases Nat.eq_zero_or_pos k with hk0 | hk1
    · have hg : decide (0 < k) = false := by simp; omega
      have hg2 : decide ((0 : Int) < (k : Int)) = false := by simp; omega
      have He : Hid (riseE l = riseE (l.drop (k + 1 - 1))) := Lib.hid (by rw [he, hk0])
      have hkI : (k : Int) ≤ 0 := by omega
      clear he hk0
      go_wp2_with fail
      go_quiet (fail)
      go_wp2
      go_roundw
      case rel => exact ⟨k + 1, by omega, by go_num, He.out, bdr hb _⟩
      case measure => simp [intOf]; omega
    · obtain ⟨j, rfl⟩ : ∃ j, k = j + 1 := ⟨k - 1, by omega⟩
      obtain ⟨ad, a, rfl, hab, ha, u0, u1, u2⟩ := (hr.below hb).ent (show j < n by omega)
      obtain ⟨ad2, b, he2, hab2, hbb, v0, v1, v2⟩ := (hr.below hb).ent hlt
      cases he2
      have hd := rise_drop ha hbb
      have HC := fun W => lessE_any a b W
      rw [lessE_cmp] at HC
      rw [Nat.add_sub_cancel] at he
      have He := Lib.hid (he.trans hd)
      clear he hd ha hbb hk1
      obtain ⟨k, hkj⟩ : ∃ k, j + 1 = k := ⟨_, rfl⟩
      have hjI : ((k : Nat) : Int) - 1 = (j : Int) := by omega
      have hw1 : IntKind.i64.wrap ((k : Int) - 1) = (j : Int) := by rw [hjI]; exact IntWalk.i64_in _ (by omega)
      rw [hkj] at v0 v1 v2 hlt q0 q2 hk He ⊢
      have hg : decide (0 < k) = true := by simp; omega
      have hg2 : decide ((0 : Int) < (k : Int)) = true := by simp; omega
      have q3 : (j : Int) < (n : Int) := by omega
      have q4 : j < n := by omega
      have q5 : (0 : Int) ≤ (j : Int) := by omega
      have Hkj := Lib.hid hkj
      clear hjI hkj
      obtain ⟨s, p, q⟩ := a
      obtain ⟨t, y, z⟩ := b
      have hS : Hid (∀ W, Below wr.heap.size wr W → W.cell? (ad.add (j * 3)) = some (.string s) ∧ W.cell? ⟨(ad.add (j * 3)).block, (ad.add (j * 3)).off + 1, none⟩ = some (.int .u32 p) ∧ W.cell? ⟨(ad.add (j * 3)).block, (ad.add (j * 3)).off + 2, none⟩ = some (.int .u16 q) ∧ W.cell? (ad.add (k * 3)) = some (.string t) ∧ W.cell? ⟨(ad.add (k * 3)).block, (ad.add (k * 3)).off + 1, none⟩ = some (.int .u32 y) ∧ W.cell? ⟨(ad.add (k * 3)).block, (ad.add (k * 3)).off + 2, none⟩ = some (.int .u16 z) ∧ Below wr.heap.size wr W) := by
       refine Lib.hid fun W hW => ⟨(hW.cell ?_).trans u0, (hW.cell ?_).trans u1, (hW.cell ?_).trans u2, (hW.cell ?_).trans v0, (hW.cell ?_).trans v1, (hW.cell ?_).trans v2, hW⟩
       all_goals (simp only [block_of_add]; omega)
      unfold En.agg at HC
      simp only at u0 u1 u2 v0 v1 v2 HC
      have hx : Hid (riseE l = (decide (cmpE ⟨s, p, q⟩ ⟨t, y, z⟩ < 0) && riseE (l.drop (k + 1 - 1)))) := Lib.hid (by rw [He.out, Nat.add_sub_cancel])
      clear He
      generalize cmpE ⟨s, p, q⟩ ⟨t, y, z⟩ = x at *
      have Hx := hx
      clear hx
      by_cases hx : x < 0
      · have He1 : Hid (riseE l = riseE (l.drop (k + 1 - 1))) := Lib.hid (by rw [Hx.out]; simp [hx])
        simp only [hx, decide_true] at HC
        have HD := Lib.hid HC
        clear Hx hx HC
        go_wp2_with fail
        go_region_held3 (fun W => W.cell? (ad.add (j * 3)) = some (.string s) ∧ W.cell? ⟨(ad.add (j * 3)).block, (ad.add (j * 3)).off + 1, none⟩ = some (.int .u32 p) ∧ W.cell? ⟨(ad.add (j * 3)).block, (ad.add (j * 3)).off + 2, none⟩ = some (.int .u16 q) ∧ W.cell? (ad.add (k * 3)) = some (.string t) ∧ W.cell? ⟨(ad.add (k * 3)).block, (ad.add (k * 3)).off + 1, none⟩ = some (.int .u32 y) ∧ W.cell? ⟨(ad.add (k * 3)).block, (ad.add (k * 3)).off + 2, none⟩ = some (.int .u16 z) ∧ Below wr.heap.size wr W)
         (first | exact hS.out _ (by (with_reducible repeat (first | exact Below.refl _ _ | exact hb1 | refine bto0 ?_ hb1 | refine bdr ?_ _ | refine Below.drew ?_ | refine ball ?_ _))) | assumption)
         (first | (go_at_call 35; (with_reducible refine (HD.out _).mono ?_); rintro e w1 ⟨rfl, hb1⟩))
        have hbw1 : Below w.heap.size w w1 := bto0 hb (by (with_reducible repeat (first | exact Below.refl _ _ | exact hb1 | refine bto0 ?_ hb1 | refine bdr ?_ _ | refine Below.drew ?_ | refine ball ?_ _)))
        go_wp2
        go_roundw
        case rel => exact ⟨k + 1, by omega, by go_num, He1.out, by first | exact hbw1 | exact bdr hbw1 _⟩
        case measure => simp [intOf]; omega
      · have He1 : Hid (riseE l = false) := Lib.hid (by rw [Hx.out]; simp [hx])
        simp only [hx, decide_false] at HC
        have HD := Lib.hid HC
        clear Hx hx HC
        go_wp2_with fail
        go_region_held3 (fun W => W.cell? (ad.add (j * 3)) = some (.string s) ∧ W.cell? ⟨(ad.add (j * 3)).block, (ad.add (j * 3)).off + 1, none⟩ = some (.int .u32 p) ∧ W.cell? ⟨(ad.add (j * 3)).block, (ad.add (j * 3)).off + 2, none⟩ = some (.int .u16 q) ∧ W.cell? (ad.add (k * 3)) = some (.string t) ∧ W.cell? ⟨(ad.add (k * 3)).block, (ad.add (k * 3)).off + 1, none⟩ = some (.int .u32 y) ∧ W.cell? ⟨(ad.add (k * 3)).block, (ad.add (k * 3)).off + 2, none⟩ = some (.int .u16 z) ∧ Below wr.heap.size wr W)
         (first | exact hS.out _ (by (with_reducible repeat (first | exact Below.refl _ _ | exact hb1 | refine bto0 ?_ hb1 | refine bdr ?_ _ | refine Below.drew ?_ | refine ball ?_ _))) | assumption)
         (first | (go_at_call 35; (with_reducible refine (HD.out _).mono ?_); rintro e w1 ⟨rfl, hb1⟩))
        have hbw1 : Below w.heap.size w w1 := bto0 hb (by (with_reducible repeat (first | exact Below.refl _ _ | exact hb1 | refine bto0 ?_ hb1 | refine bdr ?_ _ | refine Below.drew ?_ | refine ball ?_ _)))
        go_wp2
        go_ret
        exact ⟨by rw [He1.out]; rfl, by first | exact hbw1 | exact bdr hbw1 _⟩
  · have hfin : Hid (riseE l = true) := Lib.hid (by rw [he]; exact rise_end (by rw [Hl.out]; omega))
    have q1 : (n : Int) ≤ (k : Int) := by omega
    clear he
    go_wp2
    go_ret
    exact ⟨by rw [hfin.out]; rfl, hb⟩
end
end Go.Proofs.YtebobcbaloddaaaGreat
