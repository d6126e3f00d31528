/-
  Entries of a tree as bytes: contracts of putEntry, begin, fill, may, LeafSize.
-/
import Derived.Test.YtgdipljaddodhaaYf
set_option linter.unusedSimpArgs false
namespace Go.Proofs.Ytgdipljaddodhaa
open Go.RowKit

/-- An entry's bytes. -/
def enL (e : En) : List UInt8 := be 2 e.s.size ++ e.s.data.toList ++ be 4 e.p.toNat ++ be 2 e.q.toNat
theorem enL_len (e : En) : (enL e).length = 8 + e.s.size := by
  unfold enL
  have : e.s.data.toList.length = e.s.size := rfl
  simp only [List.length_append, be_len]
  omega

set_option maxHeartbeats 2000000 in
theorem putEntry_any (e : En) (he : e.ok) (hs : e.s.size ≤ 10000) (sv : Value) (l : List UInt8) (w : World) (base : Nat) (hown : Own w base sv l) (hb : base ≤ w.heap.size) (hlen : l.length ≤ 1000000) :
    Calls Try.prog 33 #[sv, e.agg] w (RetOwn w base (l ++ enL e)) := by
  obtain ⟨s, p, q⟩ := e
  obtain ⟨_, ⟨hp0, hp1⟩, ⟨hq0, hq1⟩⟩ := he
  simp only at hp0 hp1 hq0 hq1 hs
  obtain ⟨P, rfl⟩ : ∃ P : Nat, p = (P : Int) := ⟨p.toNat, by omega⟩
  obtain ⟨Q, rfl⟩ : ∃ Q : Nat, q = (Q : Int) := ⟨q.toNat, by omega⟩
  have hsI : (s.size : Int) ≤ 10000 := by omega
  have hen : enL ⟨s, P, Q⟩ = be 2 s.size ++ s.data.toList ++ be 4 P ++ be 2 Q := rfl
  have HE := Lib.hid hen; clear hen
  have hb1 : base ≤ (w.alloc (.cells #[.string s, .int .u32 (P : Int), .int .u16 (Q : Int)] 27)).heap.size := by simp; omega
  have X1 := Blk.new w 27 #[.string s, .int .u32 (P : Int), .int .u16 (Q : Int)]
  have own1 := hown.alloc (.cells #[.string s, .int .u32 (P : Int), .int .u16 (Q : Int)] 27)
  have kp1 : Keeps base w (w.alloc (.cells #[.string s, .int .u32 (P : Int), .int .u16 (Q : Int)] 27)) := Keeps.alloc_ hb _
  have HP : Hid ((P : Nat) < 4294967296 ∧ (Q : Nat) < 4294967296) := Lib.hid ⟨by omega, by omega⟩
  have HQ : Hid ((Q : Int) ≤ 65535) := Lib.hid hq1
  have N1 := Lib.hid (putNum2_any s.size (by omega) sv l _ base own1 hb1 (by omega))
  have hll : (l ++ be 2 s.size).length ≤ 1000002 := by simp [be_len]; omega
  have hsl : s.data.toList.length = s.size := rfl
  clear hp1
  go_enter Try.func33, Try.ntmps33
  go_wp2_with fail
  refine N1.out.mono ?_
  rintro e w2 ⟨v2, rfl, own2, kp2⟩
  have X2 := kp2.blk _ _ _ (by decide) X1
  have c0 := X2.cell 0
  have hb2 := Nat.le_trans hb1 kp2.size
  go_wp2_with (first
    | (at_builtin; refine wpList_appS rfl _ _ rfl base v2 _ s rfl own2 rfl (by omega) hb2 ?_; intro v3 w3 own3 kp3; have X3 := kp3.blk _ _ _ (by decide) X2; have c1 := X3.cell 1; have hb3 := Nat.le_trans hb2 kp3.size))
  refine (putNum4_any P HP.out.1 v3 _ w3 base own3 hb3 (by simp only [List.length_append] at hll ⊢; omega)).mono ?_
  rintro e w4 ⟨v4, rfl, own4, kp4⟩
  have X4 := kp4.blk _ _ _ (by decide) X3
  have c2 := X4.cell 2
  have hb4 := Nat.le_trans hb3 kp4.size
  go_wp2_with fail
  refine (putNum2_any Q HP.out.2 v4 _ w4 base own4 hb4 (by simp only [List.length_append, be_len] at hll ⊢; omega)).mono ?_
  rintro e w5 ⟨v5, rfl, own5, kp5⟩
  go_wp2
  go_ret
  exact ⟨_, rfl, by rw [HE.out]; simpa using own5, (((kp1.trans kp2).trans kp3).trans kp4).trans kp5⟩

/-- Have entries room? -/
def mayEn (l : List En) : Bool := (l.all fun e => decide (e.s.size ≤ 200)) && riseE l
set_option maxHeartbeats 1000000 in
theorem mayE_any (A : Option Addr) (n c : Nat) (l : List En) (w : World) (hr : Reads w w.heap.size 3 A n (vE l)) (hn : n ≤ 1000000) :
    Calls Try.prog 31 #[.slice A n c] w (RetB w (.bool (mayEn l))) := by
  have hl : l.length = n := by have := hr.1; rw [vE_len] at this; omega
  have Hl := Lib.hid hl; clear hl
  have hnI : (n : Int) ≤ 1000000 := by omega
  have R := Lib.hid fun (W : World) (hb : Below w.heap.size w W) => riseE_any A n c l W ((hr.below hb).more hb.size) hn
  go_enter Try.func31, Try.ntmps31
  go_wp2
  go_loopw [7] (fun i wr => ∃ k : Nat, k ≤ n ∧ i = .int .i64 k ∧ ((l.take k).all fun e => decide (e.s.size ≤ 200)) = true ∧ Below w.heap.size w wr) (fun i _ => n - (intOf i).toNat)
  case atStart => exact ⟨0, Nat.zero_le _, rfl, rfl, Below.refl _ _⟩
  case round =>
    obtain ⟨k, hk, rfl, ha, hb⟩ := hrel
    have Ha := Lib.hid ha; clear ha
    have q0 : (0 : Int) ≤ (k : Int) := by omega
    by_cases hlt : k < n
    · have q1 : (k : Int) < (n : Int) := by omega
      obtain ⟨ad, v, rfl, hab, hv, d0, d1, d2⟩ := (hr.below hb).ent hlt
      have Hv := Lib.hid hv; clear hv
      obtain ⟨s, p, q⟩ := v
      simp only at d0 d1 d2
      by_cases h2 : s.size ≤ 200
      · have g2 : (s.size : Int) ≤ 200 := by omega
        have HA : Hid (((l.take (k + 1)).all fun e => decide (e.s.size ≤ 200)) = true) := Lib.hid (by rw [List.take_add_one, Hv.out, List.all_append, Ha.out]; simp [h2])
        go_wp2
        go_roundw
        case rel => exact ⟨k + 1, by omega, by go_num, HA.out, ball hb _⟩
        case measure => simp [intOf]; omega
      · have g2 : (200 : Int) < (s.size : Int) := by omega
        have HF : Hid (mayEn l = false) := Lib.hid (by
          unfold mayEn
          have : (l.all fun e => decide (e.s.size ≤ 200)) = false := by
            rw [Bool.eq_false_iff]
            intro h
            rw [List.all_eq_true] at h
            have := h _ (List.mem_of_getElem? Hv.out)
            simp only [decide_eq_true_iff] at this
            exact h2 this
          rw [this]; rfl)
        go_wp2
        go_ret
        exact ⟨by rw [HF.out]; rfl, ball hb _⟩
    · obtain rfl : k = n := by omega
      have hT : l.take k = l := List.take_of_length_le (by rw [Hl.out]; exact Nat.le_refl _)
      have HM : Hid (mayEn l = riseE l) := Lib.hid (by have := Ha.out; rw [hT] at this; unfold mayEn; rw [this]; rfl)
      clear hT
      go_wp2_with fail
      refine (R.out _ (by first | exact hb | exact bdr hb _)).mono ?_
      rintro e w1 ⟨rfl, hb1⟩
      go_wp2
      go_ret
      exact ⟨by rw [HM.out]; rfl, by first | exact bto0 hb hb1 | exact bto0 (bdr hb _) hb1⟩
end Go.Proofs.Ytgdipljaddodhaa
