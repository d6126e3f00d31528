/-
  Keys as bytes: Behind, the program's and the reference's.
-/
import Derived.Test.YtohaplmbgipbcaaDoorKd
namespace Go.Proofs.YtohaplmbgipbcaaDoor
open Go.RowKit

/-- Where bytes 255 at the end begin. -/
def nbf (l : List UInt8) : Nat → Nat
  | 0 => 0
  | k + 1 => if l[k]? = some 255 then nbf l k else k + 1
def nb (l : List UInt8) : Nat := nbf l l.length
def bhL (l : List UInt8) : List UInt8 := l.take (nb l - 1) ++ [(l[nb l - 1]?).getD 0 + 1]
def RetBh (l : List UInt8) (w : World) (e : Ending) (w' : World) : Prop := e = .returned (.tuple #[.string (if nb l = 0 then ⟨#[]⟩ else str (bhL l)), .bool (decide (nb l ≠ 0))]) ∧ Below w.heap.size w w'
theorem nbf_le (l : List UInt8) : ∀ k, nbf l k ≤ k
  | 0 => Nat.le_refl _
  | k + 1 => by
    unfold nbf
    have := nbf_le l k
    split <;> omega
theorem u8_inc (x : UInt8) (h : x ≠ 255) : ((x + 1).toNat : Int) = (x.toNat : Int) + 1 := by
  have h1 : x.toNat ≠ 255 := fun e => h (UInt8.toNat_inj.1 e)
  have := x.toNat_lt
  rw [UInt8.toNat_add]
  show (((x.toNat + 1) % 256 : Nat) : Int) = _
  omega
theorem u8_n255 {c : UInt8} (h : c ≠ 255) : ((c.toNat : Int) == 255) = false := by
  have : (c.toNat : Int) ≠ 255 := fun e => h (UInt8.toNat_inj.1 (by show c.toNat = 255; omega))
  simp [this]
theorem at_get (s : ByteArray) (k : Nat) (h : k < s.size) : s.data.toList[k]? = some s[k] := by
  rw [List.getElem?_eq_getElem (by rw [szl]; exact h)]
  rfl

set_option maxHeartbeats 1000000 in
theorem behind_any (s : ByteArray) (w : World) (hs : s.size ≤ 100000) : Calls Tryd.prog 19 #[.string s] w (RetBh s.data.toList w) := by
  have hnb : nb s.data.toList = nbf s.data.toList s.size := rfl
  have HN := Lib.hid hnb
  clear hnb
  go_enter Tryd.func19, Tryd.ntmps19
  go_wp2
  go_loop [4] (fun iv => ∃ k : Nat, k ≤ s.size ∧ iv = .int .i64 ((k : Int) - 1) ∧ nb s.data.toList = nbf s.data.toList k) (fun iv => (intOf iv + 1).toNat)
  case atStart => exact ⟨s.size, by omega, rfl, HN.out⟩
  case round =>
    obtain ⟨k, hk, rfl, he⟩ := hrel
    have HE := Lib.hid he; clear he
    cases k with
    | zero =>
      have hz : Hid (nb s.data.toList = 0) := Lib.hid HE.out
      go_wp2
      go_ret2
      exact ⟨by rw [hz.out]; rfl, Below.refl _ _⟩
    | succ k =>
      have e1 : ((k + 1 : Nat) : Int) - 1 = (k : Int) := by omega
      rw [e1]
      clear e1
      have g0 : (0 : Int) ≤ (k : Int) := by omega
      have g1 : (k : Int) < (s.size : Int) := by omega
      have hlt : k < s.size := by omega
      by_cases hc : s[k] = 255
      · have hcb : ((s[k].toNat : Int) == 255) = true := by rw [hc]; rfl
        have hst : Hid (nb s.data.toList = nbf s.data.toList k) := Lib.hid (by rw [HE.out, nbf, at_get s k hlt, if_pos (by rw [hc])])
        clear hc
        go_wp2
        go_round
        case rel => exact ⟨k, by omega, rfl, hst.out⟩
        case measure => simp [intOf]
      · have hcb := u8_n255 hc
        have hst : nb s.data.toList = k + 1 := by rw [HE.out, nbf, at_get s k hlt, if_neg (by intro h; exact hc (Option.some.inj h))]
        have hinc := u8_inc s[k] hc
        have hb8 : (s[k].toNat : Int) ≤ 254 := by have := (s[k] + 1).toNat_lt; omega
        have hfin : Hid (s.extract 0 k ++ str [s[k] + 1] = str (bhL s.data.toList)) := Lib.hid (by
          unfold bhL
          rw [hst, Nat.add_sub_cancel, at_get s k hlt]
          apply ByteArray.ext
          rw [ByteArray.data_append]
          apply Array.toList_inj.1
          rw [Array.toList_append, Lib.extract_data]
          simp [str])
        have hcv : ∀ o : World, (convert 40 9 (.slice (some ⟨o.heap.size, 0, none⟩) 1 1)).run Tryd.prog (o.alloc (.cells #[.int .u8 ((s[k].toNat : Int) + 1)] 5)).drew = .ok (.string (str [s[k] + 1])) (o.alloc (.cells #[.int .u8 ((s[k].toNat : Int) + 1)] 5)).drew := fun o =>
          conv_reads (l := [s[k] + 1]) (reads_new o #[.int .u8 ((s[k].toNat : Int) + 1)] 5 (by show [Value.int .u8 ((s[k] + 1).toNat : Int)] = _; rw [hinc]) rfl).drew _ 5 _ Tryd.underlying40 Tryd.underlying5 Tryd.underlying9 1
        have hkl : k ≤ s.size := by omega
        obtain ⟨T, hT⟩ : ∃ T, str [s[k] + 1] = T := ⟨_, rfl⟩
        have hTs : T.size = 1 := by rw [← hT]; rfl
        rw [hT] at hfin
        simp only [hT] at hcv
        have hov : ¬ 9223372036854775807 < min k s.size + T.size := by omega
        have hov2 : ¬ 9223372036854775807 < k + T.size := by omega
        clear hT hTs
        have HST := Lib.hid hst
        clear hst hinc hc
        go_wp2
        go_region
        all_goals go_wp2
        all_goals
          go_ret2
          exact ⟨by rw [HST.out, if_neg (by omega), ← hfin.out]; rfl, (ball (Below.refl _ _) _).drew⟩

set_option maxHeartbeats 1000000 in
theorem rbehind_any (s : ByteArray) (w : World) (hs : s.size ≤ 100000) : Calls Tryd.prog 20 #[.string s] w (RetBh s.data.toList w) := by
  have hnb : nb s.data.toList = nbf s.data.toList s.size := rfl
  have HN := Lib.hid hnb
  clear hnb
  go_enter Tryd.func20, Tryd.ntmps20
  go_wp2
  go_loop [4] (fun iv => ∃ k : Nat, k ≤ s.size ∧ iv = .int .i64 (k : Int) ∧ nb s.data.toList = nbf s.data.toList k) (fun iv => (intOf iv).toNat)
  case atStart => exact ⟨s.size, by omega, rfl, HN.out⟩
  case round =>
    obtain ⟨k, hk, rfl, he⟩ := hrel
    have HE := Lib.hid he; clear he
    cases k with
    | zero =>
      have hz : Hid (nb s.data.toList = 0) := Lib.hid HE.out
      go_wp2
      go_ret2
      exact ⟨by rw [hz.out]; rfl, Below.refl _ _⟩
    | succ k =>
      have e1 : ((k + 1 : Nat) : Int) = (k : Int) + 1 := by omega
      rw [e1]
      clear e1
      have g0 : (0 : Int) ≤ (k : Int) := by omega
      have g1 : (k : Int) < (s.size : Int) := by omega
      have hlt : k < s.size := by omega
      by_cases hc : s[k] = 255
      · have hcb : ((s[k].toNat : Int) == 255) = true := by rw [hc]; rfl
        have hst : Hid (nb s.data.toList = nbf s.data.toList k) := Lib.hid (by rw [HE.out, nbf, at_get s k hlt, if_pos (by rw [hc])])
        clear hc
        go_wp2
        go_round
        case rel => exact ⟨k, by omega, by go_num, hst.out⟩
        case measure => simp [intOf]
      · have hcb := u8_n255 hc
        have hst : nb s.data.toList = k + 1 := by rw [HE.out, nbf, at_get s k hlt, if_neg (by intro h; exact hc (Option.some.inj h))]
        have hinc := u8_inc s[k] hc
        have hb8 : (s[k].toNat : Int) ≤ 254 := by have := (s[k] + 1).toNat_lt; omega
        have hfin : Hid (s.extract 0 k ++ str [s[k] + 1] = str (bhL s.data.toList)) := Lib.hid (by
          unfold bhL
          rw [hst, Nat.add_sub_cancel, at_get s k hlt]
          apply ByteArray.ext
          rw [ByteArray.data_append]
          apply Array.toList_inj.1
          rw [Array.toList_append, Lib.extract_data]
          simp [str])
        have hcv : ∀ o : World, (convert 40 9 (.slice (some ⟨o.heap.size, 0, none⟩) 1 1)).run Tryd.prog (o.alloc (.cells #[.int .u8 ((s[k].toNat : Int) + 1)] 5)).drew = .ok (.string (str [s[k] + 1])) (o.alloc (.cells #[.int .u8 ((s[k].toNat : Int) + 1)] 5)).drew := fun o =>
          conv_reads (l := [s[k] + 1]) (reads_new o #[.int .u8 ((s[k].toNat : Int) + 1)] 5 (by show [Value.int .u8 ((s[k] + 1).toNat : Int)] = _; rw [hinc]) rfl).drew _ 5 _ Tryd.underlying40 Tryd.underlying5 Tryd.underlying9 1
        have hkl : k ≤ s.size := by omega
        have hki : (k : Int) ≤ (s.size : Int) := by omega
        obtain ⟨T, hT⟩ : ∃ T, str [s[k] + 1] = T := ⟨_, rfl⟩
        have hTs : T.size = 1 := by rw [← hT]; rfl
        rw [hT] at hfin
        simp only [hT] at hcv
        have hov : ¬ 9223372036854775807 < min k s.size + T.size := by omega
        have hov2 : ¬ 9223372036854775807 < k + T.size := by omega
        clear hT hTs
        have HST := Lib.hid hst
        clear hst hinc hc
        go_wp2
        go_region
        all_goals go_wp2
        all_goals
          go_ret2
          exact ⟨by rw [HST.out, if_neg (by omega), ← hfin.out]; rfl, (ball (Below.refl _ _) _).drew⟩
end Go.Proofs.YtohaplmbgipbcaaDoor
