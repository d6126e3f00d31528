/-
  Keys as rows: contracts of the program's get.
-/
import Derived.Test.YtohaplmbgipbcaaDoorKg
import Derived.Laws.BitsAllLaws
set_option linter.unusedSimpArgs false
namespace Go.Proofs.YtohaplmbgipbcaaDoor
open Go.RowKit

def RetG (w : World) (d : KD) (e : Ending) (w' : World) : Prop := Below w.heap.size w w' ∧ match d with
  | .bad k => e = .returned (.tuple #[.agg #[.int .u8 0, .int .i64 0, .string ⟨#[]⟩], .string ⟨#[]⟩, .int .i64 k])
  | .ok v r => e = .returned (.tuple #[v.agg, .string (str r), .int .i64 0])
theorem RetG.bad_ {w w' : World} {k : Int} {e : Ending} (h : Below w.heap.size w w') (he : e = .returned (.tuple #[.agg #[.int .u8 0, .int .i64 0, .string ⟨#[]⟩], .string ⟨#[]⟩, .int .i64 k])) : RetG w (.bad k) e w' := ⟨h, he⟩
theorem RetG.ok_ {w w' : World} {v : Vl} {r : List UInt8} {e : Ending} (h : Below w.heap.size w w') (he : e = .returned (.tuple #[v.agg, .string (str r), .int .i64 0])) : RetG w (.ok v r) e w' := ⟨h, he⟩
theorem ext_drop (s : ByteArray) (k : Nat) : s.extract k s.size = str (s.data.toList.drop k) := by
  apply ByteArray.ext
  apply Array.toList_inj.1
  rw [Lib.extract_data]
  show _ = (s.data.toList.drop k).toArray.toList
  rw [List.take_of_length_le (by rw [List.length_drop, szl]; exact Nat.le_refl _)]
theorem drop_at (s : ByteArray) (i : Nat) (h : i < s.size) : s.data.toList.drop i = s[i] :: s.data.toList.drop (i + 1) := by
  rw [List.drop_eq_getElem_cons (by rw [szl]; exact h)]
  rfl
theorem head_at (s : ByteArray) (h : 0 < s.size) : s.data.toList = s[0] :: s.data.toList.drop 1 := by
  have := drop_at s 0 h
  rwa [List.drop_zero] at this
theorem nil_of (s : ByteArray) (h : ¬ 0 < s.size) : s.data.toList = [] := List.eq_nil_of_length_eq_zero (by rw [szl]; omega)

set_option maxHeartbeats 1000000 in
theorem getBool_any (s : ByteArray) (w : World) (hs : s.size ≤ 100000) : Calls Tryd.prog 31 #[.string s] w (RetG w (kdB s.data.toList)) := by
  by_cases h0 : 0 < s.size
  · rw [head_at s h0]
    have g1 : (0 : Int) < (s.size : Int) := by omega
    have e0 : ((s.size : Int) == 0) = false := beq_eq_false_iff_ne.2 (by omega)
    have hd := ext_drop s 1
    obtain ⟨T, hT⟩ : ∃ T, s.extract 1 s.size = T := ⟨_, rfl⟩
    rw [hT] at hd
    have HD := Lib.hid hd; clear hd
    have g2 : (1 : Int) ≤ (s.size : Int) := by omega
    have g3 : 1 ≤ s.size := by omega
    show Calls _ _ _ _ (RetG w (if 1 < s[0].toNat then .bad 2 else .ok ⟨2, s[0].toNat, ⟨#[]⟩⟩ (s.data.toList.drop 1)))
    by_cases h1 : 1 < s[0].toNat
    · rw [if_pos h1]
      have h1' : (1 : Int) < (s[0].toNat : Int) := by omega
      clear h1 hT
      go_enter Tryd.func31, Tryd.ntmps31
      go_wp2
      exact bodyPost_ret (v := .tuple #[.agg #[.int .u8 0, .int .i64 0, .string ⟨#[]⟩], .string ⟨#[]⟩, .int .i64 2]) (by simp [results, Tryd.results31, go_sem]) rfl (RetG.bad_ (ball (Below.refl _ _) _) rfl)
    · rw [if_neg h1]
      have h1' : (s[0].toNat : Int) ≤ 1 := by omega
      clear h1
      go_enter Tryd.func31, Tryd.ntmps31
      go_wp2
      go_region
      all_goals go_wp2
      all_goals exact bodyPost_ret (v := .tuple #[.agg #[.int .u8 2, .int .i64 (s[0].toNat : Int), .string ⟨#[]⟩], .string T, .int .i64 0]) (by simp [results, Tryd.results31, go_sem]) rfl (RetG.ok_ (by repeat (first | exact (ball (Below.refl _ _) _).drew | refine Below.setCell ?_ (by simp) _)) (by rw [← HD.out]))
  · rw [nil_of s h0]
    have e0 : ((s.size : Int) == 0) = true := by have : (s.size : Int) = 0 := by omega
                                                 rw [this]; rfl
    clear h0
    go_enter Tryd.func31, Tryd.ntmps31
    go_wp2
    exact bodyPost_ret (v := .tuple #[.agg #[.int .u8 0, .int .i64 0, .string ⟨#[]⟩], .string ⟨#[]⟩, .int .i64 3]) (by simp [results, Tryd.results31, go_sem]) rfl (RetG.bad_ (ball (Below.refl _ _) _) rfl)

theorem or_byte (U : Nat) (b : UInt8) (hU : U < 72057594037927936) : bits .or .u64 (IntKind.u64.wrap ((U : Int) * 256)) (b.toNat : Int) = ((256 * U + b.toNat : Nat) : Int) := by
  have hb := b.toNat_lt
  have h1 : IntKind.u64.wrap ((U : Int) * 256) = ((256 * U : Nat) : Int) := by rw [IntKind.wrap_u64]; omega
  rw [h1]
  show IntKind.u64.wrap ((BitVec.ofInt 64 ((256 * U : Nat) : Int) ||| BitVec.ofInt 64 (b.toNat : Int)).toNat : Int) = _
  have e1 : (BitVec.ofInt 64 ((256 * U : Nat) : Int)).toNat = 256 * U := by rw [BitVec.toNat_ofInt]; omega
  have e2 : (BitVec.ofInt 64 (b.toNat : Int)).toNat = b.toNat := by rw [BitVec.toNat_ofInt]; omega
  have e3 : 256 * U ||| b.toNat = 256 * U + b.toNat := by
    rw [show (256 : Nat) = 2 ^ 8 from rfl]
    exact (Nat.two_pow_add_eq_or_of_lt (i := 8) (b := b.toNat) (by omega) U).symm
  rw [BitVec.toNat_or, e1, e2, e3, IntKind.wrap_u64]
  omega
theorem xor_back (U : Nat) (hU : U < 18446744073709551616) : IntKind.i64.wrap (bits .xor .u64 (U : Int) 9223372036854775808) = (U : Int) - 9223372036854775808 := by
  show IntKind.i64.wrap (IntKind.u64.wrap ((BitVec.ofInt 64 (U : Int) ^^^ BitVec.ofInt 64 9223372036854775808).toNat : Int)) = _
  have e1 : (BitVec.ofInt 64 (U : Int)).toNat = U := by rw [BitVec.toNat_ofInt]; omega
  have e2 : (BitVec.ofInt 64 9223372036854775808).toNat = 2 ^ 63 := by decide
  rw [BitVec.toNat_xor, e1, e2, xor_nat _ hU, IntKind.wrap_u64, IntKind.wrap_i64]
  omega
theorem at_list (s : ByteArray) (k : Nat) (h : k < s.size) : s.data.toList[k]? = some s[k] := by
  rw [List.getElem?_eq_getElem (by rw [szl]; exact h)]
  rfl
set_option maxHeartbeats 1000000 in
theorem getInt_any (s : ByteArray) (w : World) (hs : s.size ≤ 100000) : Calls Tryd.prog 30 #[.string s] w (RetG w (kdI s.data.toList)) := by
  unfold kdI
  rw [szl]
  by_cases h8 : s.size < 8
  · have g1 : (s.size : Int) < 8 := by omega
    rw [if_pos h8]
    clear h8
    go_enter Tryd.func30, Tryd.ntmps30
    go_wp2
    exact bodyPost_ret (v := .tuple #[.agg #[.int .u8 0, .int .i64 0, .string ⟨#[]⟩], .string ⟨#[]⟩, .int .i64 3]) (by simp [results, Tryd.results30, go_sem]) rfl (RetG.bad_ (ball (Below.refl _ _) _) rfl)
  · have g1 : (8 : Int) ≤ (s.size : Int) := by omega
    have g2 : 8 ≤ s.size := by omega
    rw [if_neg h8]
    have hd := ext_drop s 8
    obtain ⟨T, hT⟩ : ∃ T, s.extract 8 s.size = T := ⟨_, rfl⟩
    rw [hT] at hd
    have HD := Lib.hid hd; clear hd
    clear h8
    have hT' := Lib.hid hT; clear hT
    go_enter Tryd.func30, Tryd.ntmps30
    go_wp2
    go_loop [5, 11] (fun uv iv => ∃ j : Nat, j ≤ 8 ∧ iv = .int .i64 j ∧ uv = .int .u64 ((beVal (s.data.toList.take j) : Nat) : Int)) (fun _ iv => 8 - (intOf iv).toNat)
    case atStart => exact ⟨0, by omega, rfl, rfl⟩
    case round =>
      obtain ⟨j, hj, rfl, rfl⟩ := hrel
      have q0 : (0 : Int) ≤ (j : Int) := by omega
      by_cases hlt : j < 8
      · have q1 : (j : Int) < 8 := by omega
        have q2 : (j : Int) < (s.size : Int) := by omega
        have q3 : j < s.size := by omega
        have xb : (s[j].toNat : Int) ≤ 255 := by have := s[j].toNat_lt; omega
        have xb0 : (0 : Int) ≤ (s[j].toNat : Int) := by omega
        have hbt := Lib.hid (beVal_take (at_list s j q3))
        have hlt2 : beVal (s.data.toList.take j) < 72057594037927936 := by
          have h1 := beVal_lt (s.data.toList.take j)
          have h2 : (s.data.toList.take j).length ≤ 7 := by rw [List.length_take]; omega
          have h3 : 256 ^ (s.data.toList.take j).length ≤ 256 ^ 7 := Nat.pow_le_pow_right (by omega) h2
          omega
        have hor := or_byte (beVal (s.data.toList.take j)) s[j] hlt2
        rw [← hbt.out] at hor
        clear hlt2
        obtain ⟨U, hU⟩ : ∃ U, beVal (s.data.toList.take j) = U := ⟨_, rfl⟩
        rw [hU] at hor ⊢
        clear hU
        have HOR := Lib.hid hor; clear hor
        go_wp2
        go_round
        case rel => exact ⟨j + 1, by omega, by go_num, val_int HOR.out⟩
        case measure => simp [intOf]; omega
      · obtain rfl : j = 8 := by omega
        have hU8 : beVal (s.data.toList.take 8) < 18446744073709551616 := by
          have h1 := beVal_lt (s.data.toList.take 8)
          have h2 : (s.data.toList.take 8).length ≤ 8 := by rw [List.length_take]; omega
          have h3 : 256 ^ (s.data.toList.take 8).length ≤ 256 ^ 8 := Nat.pow_le_pow_right (by omega) h2
          omega
        have hx := xor_back _ hU8
        obtain ⟨U, hU⟩ : ∃ U, beVal (s.data.toList.take 8) = U := ⟨_, rfl⟩
        obtain ⟨M, hM⟩ : ∃ M : Int, (beVal (s.data.toList.take 8) : Int) - 9223372036854775808 = M := ⟨_, rfl⟩
        rw [hM] at hx
        have HM := Lib.hid hM
        clear hM hU8
        rw [hU] at hx ⊢
        clear hU
        have hTt := hT'.out
        go_wp2
        go_region
        all_goals go_wp2
        all_goals exact bodyPost_ret (v := .tuple #[.agg #[.int .u8 1, .int .i64 M, .string ⟨#[]⟩], .string T, .int .i64 0]) (by simp [results, Tryd.results30, go_sem]) rfl (RetG.ok_ (by repeat (first | exact (ball (Below.refl _ _) _).drew | refine Below.setCell ?_ (by simp) _)) (by rw [HM.out, ← HD.out]))
end Go.Proofs.YtohaplmbgipbcaaDoor
