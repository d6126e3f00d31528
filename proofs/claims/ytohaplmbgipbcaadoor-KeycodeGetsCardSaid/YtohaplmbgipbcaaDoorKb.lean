/-
  Keys as bytes: contract of the program's put.
-/
import Derived.Test.YtohaplmbgipbcaaDoorKa
import Derived.Test.YtohaplmbgipbcaaDoorMx
import Derived.Test.YtohaplmbgipbcaaDoorSl
import Derived.Deep.RegionHeld3
import Derived.IntWalk
import Derived.Laws.Bits64
namespace Go.Proofs.YtohaplmbgipbcaaDoor
open Go.RowKit

def escB (s : ByteArray) : ByteArray := ⟨(escL s.data.toList).toArray⟩
theorem escB_list (s : ByteArray) : (escB s).data.toList = escL s.data.toList := by simp [escB]
theorem escB_size (s : ByteArray) : (escB s).size ≤ 2 * s.size := by
  have h := escL_len s.data.toList
  have e : s.data.toList.length = s.size := rfl
  have e2 : (escB s).data.toList.length = (escB s).size := rfl
  rw [← e2, escB_list]
  omega
theorem esc_any (s : ByteArray) (w : World) (hm : MaxC w) (hs : s.size ≤ 10000) :
    Calls Tryd.prog 29 #[.string s, .string ⟨#[0]⟩, .string ⟨#[0, 255]⟩] w (RetB w (.string (escB s))) := by
  have h := repl_any s ⟨#[0]⟩ ⟨#[0, 255]⟩ w hm (by decide) hs (by decide)
  have e : repA s.data.toList (⟨#[0]⟩ : ByteArray).data.toList (⟨#[0, 255]⟩ : ByteArray).data.toList = escB s := by unfold repA escB; rw [← escL_eq]
  rw [e] at h
  exact h
theorem xor_nat (x : Nat) (hx : x < 2 ^ 64) : x ^^^ 2 ^ 63 = (2 ^ 63 + x) % 2 ^ 64 := by
  apply Nat.eq_of_testBit_eq
  intro i
  rw [Nat.testBit_xor, Nat.testBit_mod_two_pow, Nat.testBit_two_pow]
  by_cases h1 : i < 63
  · rw [Nat.testBit_two_pow_add_gt h1]
    have h2 : ¬ 63 = i := by omega
    have h3 : i < 64 := by omega
    simp [h2, h3]
  · by_cases h2 : i = 63
    · subst h2
      rw [Nat.testBit_two_pow_add_eq]
      simp
    · have h3 : ¬ i < 64 := by omega
      have h4 : ¬ 63 = i := by omega
      have h5 : x.testBit i = false := Nat.testBit_lt_two_pow (Nat.lt_of_lt_of_le hx (Nat.pow_le_pow_right (by decide) (by omega)))
      simp [h3, h4, h5]
theorem xor_top (i : Int) (h0 : -9223372036854775808 ≤ i) (h1 : i ≤ 9223372036854775807) : bits .xor .u64 (IntKind.u64.wrap i) 9223372036854775808 = (((i + 9223372036854775808).toNat : Nat) : Int) := by
  show IntKind.u64.wrap ((BitVec.ofInt 64 (IntKind.u64.wrap i) ^^^ BitVec.ofInt 64 9223372036854775808).toNat : Int) = _
  have e1 : (BitVec.ofInt 64 (IntKind.u64.wrap i)).toNat = (IntKind.u64.wrap i).toNat := by rw [BitVec.toNat_ofInt, IntKind.wrap_u64]; try omega
  have e2 : (BitVec.ofInt 64 9223372036854775808).toNat = 2 ^ 63 := by decide
  rw [BitVec.toNat_xor, e1, e2, xor_nat _ (by rw [IntKind.wrap_u64]; omega)]
  rw [IntKind.wrap_u64, IntKind.wrap_u64]
  omega
theorem shr_byte {U j : Nat} (hj : j < 8) : (U : Int) / 2 ^ (56 - 8 * j) % 256 = ((UInt8.ofNat (U / 256 ^ (8 - 1 - j))).toNat : Int) := by
  have h2 : (2 : Int) ^ (56 - 8 * j) = ((256 ^ (8 - 1 - j) : Nat) : Int) := by
    rw [show 56 - 8 * j = 8 * (8 - 1 - j) from by omega, Int.pow_mul, Int.natCast_pow]
    rfl
  rw [h2, u8_nat, Int.natCast_ediv]
def RetOwn (w : World) (base : Nat) (l : List UInt8) (e : Ending) (w' : World) : Prop := ∃ v', e = .returned v' ∧ Own w' base v' l ∧ Keeps base w w'
theorem two_reads (w : World) (x y : Int) {g : Nat} (hg : g = w.heap.size) {xb yb : UInt8} (hx : x = (xb.toNat : Int)) (hy : y = (yb.toNat : Int)) : Reads (w.alloc (.cells #[.int .u8 x, .int .u8 y] 5)) (g + 1) 1 (some ⟨g, 0, none⟩) 2 (bL [xb, yb]) := by
  subst hx hy hg
  exact reads_new w _ _ rfl rfl

set_option maxRecDepth 100000 in
set_option maxHeartbeats 2000000 in
theorem put_any (v : Vl) (hv : v.ok) (hsz : v.s.size ≤ 5000) (sv : Value) (l : List UInt8) (w : World) (base : Nat) (hm : MaxC w) (hown : Own w base sv l) (hb : base ≤ w.heap.size) (hb0 : 0 < base) (hlen : l.length ≤ 100000) :
    Calls Tryd.prog 23 #[sv, v.agg] w (RetOwn w base (l ++ keyV v)) := by
  obtain ⟨k, i, s⟩ := v
  obtain ⟨⟨hk0, hk1⟩, ⟨hi0, hi1⟩, hs⟩ := hv
  simp only at hk0 hk1 hi0 hi1 hs hsz
  have hb1 : base ≤ (w.alloc (.cells #[.int .u8 k, .int .i64 i, .string s] 43)).heap.size := by simp; omega
  unfold keyV
  simp only
  by_cases h1 : k = 1
  · rw [if_pos h1]
    subst h1
    have WX := xor_top i hi0 hi1
    unfold keyI
    obtain ⟨U, hU⟩ : ∃ U : Nat, (i + 9223372036854775808).toNat = U := ⟨_, rfl⟩
    rw [hU] at WX ⊢
    have hU0 : (0 : Int) ≤ (U : Int) := by omega
    clear hU hi0 hi1 hm hs hsz hk0 hk1
    go_enter Tryd.func23, Tryd.ntmps23
    go_wp2_with (at_builtin; refine wpList_pushB rfl _ _ rfl base sv l 2 _ rfl (hown.alloc _) _ rfl (by simp) rfl (by omega) hb1 ?_; intro v1 w1 own1 kp1; have X1 := kp1.blk _ _ _ (by decide) (Blk.new w 43 _); have c0 := X1.cell 0; have c1 := X1.cell 1; have hb2 := Nat.le_trans hb1 kp1.size)
    go_loopw [0, 18] (fun bv iv wr => ∃ j : Nat, j ≤ 8 ∧ iv = .int .i64 j ∧ Own wr base bv (l ++ 2 :: (be 8 U).take j) ∧ Keeps base w wr ∧ Blk wr w.heap.size 43 #[.int .u8 1, .int .i64 i, .string s]) (fun _ iv _ => 8 - (intOf iv).toNat)
    case atStart => exact ⟨0, by omega, rfl, by simpa using own1, (Keeps.alloc_ hb _).trans kp1, X1⟩
    case round =>
      obtain ⟨j, hj, rfl, hown2, hkp, hX⟩ := hrel
      have q0 : (0 : Int) ≤ (j : Int) := by omega
      by_cases hlt : j < 8
      · have q1 : (j : Int) < 8 := by omega
        have hl2 : (l ++ 2 :: (be 8 U).take j).length ≤ 100020 := by simp [be_len]; omega
        have hbr := Nat.le_trans hb hkp.size
        have U1 : Hid ((U : Int) / 2 ^ (56 - 8 * j) % 256 = ((UInt8.ofNat (U / 256 ^ (8 - 1 - j))).toNat : Int)) := Lib.hid (shr_byte hlt)
        go_wp2_with (at_builtin; refine wpList_pushB rfl _ _ rfl base u0 _ (UInt8.ofNat (U / 256 ^ (8 - 1 - j))) _ rfl hown2 _ rfl rfl U1.out (by omega) hbr ?_; intro v2 w2 own2 kp2)
        go_roundw
        case rel => exact ⟨j + 1, by omega, by go_num, by rw [be_take 8 U j hlt]; simpa using own2, hkp.trans kp2, kp2.blk _ _ _ (by decide) hX⟩
        case measure => simp [intOf]; omega
      · have hj8 : (be 8 U).take j = be 8 U := List.take_of_length_le (by rw [be_len]; omega)
        rw [hj8] at hown2
        clear hj8
        go_wp2
        go_ret
        exact ⟨_, rfl, hown2, hkp⟩
  · by_cases h2 : k = 2
    · rw [if_neg h1, if_pos h2]
      subst h2
      have U2 : Hid (i % 256 = ((UInt8.ofNat (i % 256).toNat).toNat : Int)) := by show i % 256 = _; simp; omega
      have hr2 := Lib.hid (two_reads (w.alloc (.cells #[.int .u8 2, .int .i64 i, .string s] 43)) 3 (i % 256) (g := w.heap.size + 1) (by simp) (xb := 3) (yb := UInt8.ofNat (i % 256).toNat) rfl U2.out)
      clear h1 hm
      go_enter Tryd.func23, Tryd.ntmps23
      go_wp2_with (at_builtin; refine wpList_appR rfl _ _ rfl base sv l [3, UInt8.ofNat (i % 256).toNat] _ _ _ _ rfl ((hown.alloc _).alloc _) rfl hr2.out (by simp; omega) (by simp; omega) ?_; intro v1 w1 own1 kp1)
      go_ret
      exact ⟨_, rfl, own1, ((Keeps.alloc_ hb _).trans (Keeps.alloc_ hb1 _)).trans kp1⟩
    · by_cases h3 : k = 3
      · rw [if_neg h1, if_neg h2, if_pos h3]
        subst h3
        have HE := Lib.hid fun W h => esc_any s W h (by omega)
        have hes := escB_size s
        have hel : (escB s).data.toList = escL s.data.toList := escB_list s
        obtain ⟨t, ht⟩ : ∃ t, escB s = t := ⟨_, rfl⟩
        rw [ht] at HE hes hel
        have hM1 := Lib.hid (hm.below0 ((Below.refl _ w).alloc (Nat.le_refl _) (.cells #[.int .u8 3, .int .i64 i, .string s] 43)))
        have HL := Lib.hid hel
        clear h1 h2 ht hm hel
        have hr2 := Lib.hid fun (W : World) => two_reads W 0 1 rfl (xb := 0) (yb := 1) rfl rfl
        go_enter Tryd.func23, Tryd.ntmps23
        go_wp2_with (first
          | (at_builtin; refine wpList_pushB rfl _ _ rfl base sv l 4 _ rfl (hown.alloc _) _ rfl (by simp) rfl (by omega) hb1 ?_; intro v1 w1 own1 kp1; have X1 := kp1.blk _ _ _ (by decide) (Blk.new w 43 _); have c0 := X1.cell 0; have c1 := X1.cell 1; have c2 := X1.cell 2; have hb2 := Nat.le_trans hb1 kp1.size)
          | (go_at_call 29; (with_reducible refine (HE.out _ (hM1.out.below (kp1.below base _ (Nat.le_refl _) (Below.refl _ _)) hb0)).mono ?_); rintro e w2 ⟨rfl, hw2⟩; have own2 := own1.below hw2; have hb3 := Nat.le_trans hb2 hw2.size)
          | (at_builtin; refine wpList_appS rfl _ _ rfl base v1 _ t rfl own2 rfl (by simp; omega) hb3 ?_; intro v3 w3 own3 kp3; have hb4 := Nat.le_trans hb3 kp3.size)
          | (at_builtin; refine wpList_appR rfl _ _ rfl base v3 _ [0, 1] _ _ _ _ rfl (own3.alloc _) rfl (hr2.out _) (by have := congrArg List.length HL.out; have e2 : t.data.toList.length = t.size := rfl; simp only [List.length_append, List.length_cons, List.length_nil]; omega) (by simp; omega) ?_; intro v4 w4 own4 kp4))
        go_ret
        exact ⟨_, rfl, by rw [HL.out] at own4; simpa using own4, ((((Keeps.alloc_ hb _).trans kp1).trans (Keeps.of_below hb2 hw2)).trans kp3).trans ((Keeps.alloc_ hb4 _).trans kp4)⟩
      · have e1 : (k == 1) = false := by simp; omega
        have e2 : (k == 2) = false := by simp; omega
        have e3 : (k == 3) = false := by simp; omega
        rw [if_neg h1, if_neg h2, if_neg h3]
        clear h1 h2 h3 hm
        go_enter Tryd.func23, Tryd.ntmps23
        go_wp2_with (at_builtin; refine wpList_pushB rfl _ _ rfl base sv l 1 _ rfl (hown.alloc _) _ rfl (by simp) rfl (by omega) hb1 ?_; intro v1 w1 own1 kp1)
        go_ret
        exact ⟨_, rfl, own1, (Keeps.alloc_ hb _).trans kp1⟩
end Go.Proofs.YtohaplmbgipbcaaDoor
