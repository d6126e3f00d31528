/-
  Rows as bytes: contract of the program's put.
-/
import Derived.Test.YtcpbkaeilmabaabOw
import Derived.Test.YtcpbkaeilmabaabOpen
import Derived.Deep.RegionHeld3
import Derived.IntWalk
import Derived.Laws.Bits64
namespace Go.Proofs.Ytcpbkaeilmabaab
open Go.RowKit

/-- A value's bytes. -/
def encV (v : Vl) : List UInt8 := UInt8.ofNat v.k.toNat :: (if v.k = 1 then be 8 (v.i % 18446744073709551616).toNat else if v.k = 2 then [UInt8.ofNat (v.i % 256).toNat] else if v.k = 3 then UInt8.ofNat v.s.size :: v.s.data.toList else [])
theorem shr_byte {i : Int} {U j : Nat} (hU : (U : Int) = i % 18446744073709551616) (hj : j < 8) : IntKind.u64.wrap i / 2 ^ (56 - 8 * j) % 256 = ((UInt8.ofNat (U / 256 ^ (8 - 1 - j))).toNat : Int) := by
  have h1 : IntKind.u64.wrap i = (U : Int) := by rw [hU, IntKind.wrap_u64]
  have h2 : (2 : Int) ^ (56 - 8 * j) = ((256 ^ (8 - 1 - j) : Nat) : Int) := by
    rw [show 56 - 8 * j = 8 * (8 - 1 - j) from by omega, Int.pow_mul, Int.natCast_pow]
    rfl
  rw [h1, h2, u8_nat, Int.natCast_ediv]
def RetOwn (w : World) (base : Nat) (l : List UInt8) (e : Ending) (w' : World) : Prop := ∃ v', e = .returned v' ∧ Own w' base v' l ∧ Keeps base w w'

set_option maxRecDepth 100000 in
set_option maxHeartbeats 2000000 in
theorem put_any (v : Vl) (hv : v.ok) (hsz : v.s.size ≤ 100000000) (sv : Value) (l : List UInt8) (w : World) (base : Nat) (hown : Own w base sv l) (hb : base ≤ w.heap.size) (hlen : l.length ≤ 100000000) :
    Calls Try.prog 40 #[sv, v.agg] w (RetOwn w base (l ++ encV v)) := by
  obtain ⟨k, i, s⟩ := v
  obtain ⟨⟨hk0, hk1⟩, ⟨hi0, hi1⟩, hs⟩ := hv
  simp only at hk0 hk1 hi0 hi1 hs hsz
  have hb1 : base ≤ (w.alloc (.cells #[.int .u8 k, .int .i64 i, .string s] 56)).heap.size := by simp; omega
  have hkb : k = ((UInt8.ofNat k.toNat).toNat : Int) := by simp; omega
  unfold encV
  simp only
  obtain ⟨kb, hkb'⟩ : ∃ kb, UInt8.ofNat k.toNat = kb := ⟨_, rfl⟩
  rw [hkb'] at hkb ⊢
  have HK := Lib.hid hkb; clear hkb hkb'
  have hl1 : (l ++ [kb]).length ≤ 100000001 := by simp; omega
  have U2 : Hid (i % 256 = ((UInt8.ofNat (i % 256).toNat).toNat : Int)) := by show i % 256 = _; simp; omega
  have U3 : Hid ((s.size : Int) % 256 = ((UInt8.ofNat s.size).toNat : Int)) := (u8_nat _).symm
  by_cases h1 : k = 1
  · rw [if_pos h1]
    subst h1
    obtain ⟨U, hU⟩ : ∃ U : Nat, (i % 18446744073709551616).toNat = U := ⟨_, rfl⟩
    have hUi : (U : Int) = i % 18446744073709551616 := by omega
    rw [hU]
    have HU := Lib.hid hUi
    clear hU hUi U2 U3
    go_enter Try.func40, Try.ntmps40
    go_wp2_with (at_builtin; refine wpList_pushB rfl _ _ rfl base sv l kb _ rfl (hown.alloc _) _ rfl (by simp) HK.out (by omega) hb1 ?_; intro v1 w1 own1 kp1; have X1 := kp1.blk _ _ _ (by decide) (Blk.new w 56 _); have c0 := X1.cell 0; have hb2 := Nat.le_trans hb1 kp1.size)
    go_loopw [0, 15] (fun bv iv wr => ∃ j : Nat, j ≤ 8 ∧ iv = .int .i64 j ∧ Own wr base bv (l ++ kb :: (be 8 U).take j) ∧ Keeps base w wr ∧ Blk wr w.heap.size 56 #[.int .u8 1, .int .i64 i, .string s]) (fun _ iv _ => 8 - (intOf iv).toNat)
    case atStart => exact ⟨0, by omega, rfl, by simpa using own1, (Keeps.alloc_ hb _).trans kp1, X1⟩
    case round =>
      obtain ⟨j, hj, rfl, hown2, hkp, hX⟩ := hrel
      have c0 := hX.cell 0
      have c1 := hX.cell 1
      have q0 : (0 : Int) ≤ (j : Int) := by omega
      by_cases hlt : j < 8
      · have q1 : (j : Int) < 8 := by omega
        have hl2 : (l ++ kb :: (be 8 U).take j).length ≤ 100000010 := by simp [be_len]; omega
        have hbr := Nat.le_trans hb hkp.size
        have U1 : Hid (IntKind.u64.wrap i / 2 ^ (56 - 8 * j) % 256 = ((UInt8.ofNat (U / 256 ^ (8 - 1 - j))).toNat : Int)) := shr_byte HU.out hlt
        go_wp2_with (at_builtin; refine wpList_pushB rfl _ _ rfl base u0 _ (UInt8.ofNat (U / 256 ^ (8 - 1 - j))) _ rfl hown2 _ rfl rfl U1.out (by omega) hbr ?_; intro v2 w2 own2 kp2)
        go_roundw
        case rel => exact ⟨j + 1, by omega, by go_num, by rw [be_take 8 U j hlt]; simpa using own2, hkp.trans kp2, kp2.blk _ _ _ (by decide) hX⟩
        case measure => simp [intOf]; omega
      · have hj8 : (be 8 U).take j = be 8 U := List.take_of_length_le (by rw [be_len]; omega)
        rw [hj8] at hown2
        clear hj8
        go_wp2
        go_ret
        exact ⟨_, rfl, hown2, hkp⟩
  · by_cases h2 : k = 2
    · rw [if_neg h1, if_pos h2]
      subst h2
      clear h1
      go_enter Try.func40, Try.ntmps40
      go_wp2_with (first
          | (at_builtin; refine wpList_pushB rfl _ _ rfl base sv l kb _ rfl (hown.alloc _) _ rfl (by simp) HK.out (by omega) hb1 ?_; intro v1 w1 own1 kp1; have X1 := kp1.blk _ _ _ (by decide) (Blk.new w 56 _); have c0 := X1.cell 0; have c1 := X1.cell 1; have c2 := X1.cell 2; have hb2 := Nat.le_trans hb1 kp1.size)
          | (at_builtin; refine wpList_pushB rfl _ _ rfl base v1 _ (UInt8.ofNat (i % 256).toNat) _ rfl own1 _ rfl rfl U2.out (by omega) hb2 ?_; intro v2 w2 own2 kp2; have X2 := kp2.blk _ _ _ (by decide) X1; have c0' := X2.cell 0))
      go_ret
      exact ⟨_, rfl, by simpa using own2, ((Keeps.alloc_ hb _).trans kp1).trans kp2⟩
    · by_cases h3 : k = 3
      · rw [if_neg h1, if_neg h2, if_pos h3]
        subst h3
        clear h1 h2
        go_enter Try.func40, Try.ntmps40
        go_wp2_with (first
          | (at_builtin; refine wpList_pushB rfl _ _ rfl base sv l kb _ rfl (hown.alloc _) _ rfl (by simp) HK.out (by omega) hb1 ?_; intro v1 w1 own1 kp1; have X1 := kp1.blk _ _ _ (by decide) (Blk.new w 56 _); have c0 := X1.cell 0; have c1 := X1.cell 1; have c2 := X1.cell 2; have hb2 := Nat.le_trans hb1 kp1.size)
          | (at_builtin; refine wpList_pushB rfl _ _ rfl base v1 _ (UInt8.ofNat s.size) _ rfl own1 _ rfl rfl U3.out (by omega) hb2 ?_; intro v2 w2 own2 kp2; have X2 := kp2.blk _ _ _ (by decide) X1; have c0' := X2.cell 0; have c2' := X2.cell 2; have hb3 := Nat.le_trans hb2 kp2.size)
          | (at_builtin; refine wpList_appS rfl _ _ rfl base v2 _ s rfl own2 rfl (by simp; omega) hb3 ?_; intro v3 w3 own3 kp3; have X3 := kp3.blk _ _ _ (by decide) X2; have c0'' := X3.cell 0))
        go_ret
        exact ⟨_, rfl, by simpa using own3, (((Keeps.alloc_ hb _).trans kp1).trans kp2).trans kp3⟩
      · have e1 : (k == 1) = false := by simp; omega
        have e2 : (k == 2) = false := by simp; omega
        have e3 : (k == 3) = false := by simp; omega
        rw [if_neg h1, if_neg h2, if_neg h3]
        clear h1 h2 h3
        go_enter Try.func40, Try.ntmps40
        go_wp2_with (at_builtin; refine wpList_pushB rfl _ _ rfl base sv l kb _ rfl (hown.alloc _) _ rfl (by simp) HK.out (by omega) hb1 ?_; intro v1 w1 own1 kp1; have X1 := kp1.blk _ _ _ (by decide) (Blk.new w 56 _); have c0 := X1.cell 0)
        go_ret
        exact ⟨_, rfl, own1, (Keeps.alloc_ hb _).trans kp1⟩
end Go.Proofs.Ytcpbkaeilmabaab
