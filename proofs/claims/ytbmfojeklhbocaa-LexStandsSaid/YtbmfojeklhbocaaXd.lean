/-
  Tokens of queries: contracts of number, text.
-/
import Derived.Test.YtbmfojeklhbocaaXc
import Derived.Test.YtbmfojeklhbocaaOw
import Derived.Laws.RangeString
set_option linter.unusedSimpArgs false
set_option linter.unusedVariables false
namespace Go.Proofs.Ytbmfojeklhbocaa
open Go.RowKit

def numV : Nat → Value
  | 0 => .tuple #[.int .u8 3, .int .i64 0]
  | e => .tuple #[.int .u8 0, .int .i64 (e : Int)]
theorem numN_bad (g : Bool) (n : Nat) (c : UInt8) (l : List UInt8) (h : c.toNat < 48 ∨ 57 < c.toNat) : numN g n (c :: l) = 11 := by
  rw [numN, if_pos h]
theorem numN_great (g : Bool) (n : Nat) (c : UInt8) (l : List UInt8) (h : ¬ (c.toNat < 48 ∨ 57 < c.toNat)) (h2 : g = true ∨ (9223372036854775807 - (c.toNat - 48)) / 10 < n) : numN g n (c :: l) = numN true n l := by
  rw [numN, if_neg h, if_pos h2]
theorem numN_next (g : Bool) (n : Nat) (c : UInt8) (l : List UInt8) (h : ¬ (c.toNat < 48 ∨ 57 < c.toNat)) (h2 : ¬ (g = true ∨ (9223372036854775807 - (c.toNat - 48)) / 10 < n)) : numN g n (c :: l) = numN false (n * 10 + (c.toNat - 48)) l := by
  rw [numN, if_neg h, if_neg h2]
def posW (b : Nat) (w : World) : Nat := match w.heap[b]? with
  | some (.stringIter _ p) => p
  | _ => 0
theorem posW_iter (w : World) (s : ByteArray) (i : Nat) : posW w.heap.size (w.iter s i) = i := by
  unfold posW
  rw [World.iter_heap]
theorem iter_below (w : World) (s : ByteArray) (i : Nat) : Below w.heap.size w (w.iter s i) := ball (Below.refl _ _) _
set_option maxRecDepth 100000 in
set_option maxHeartbeats 4000000 in
theorem number_any (s : ByteArray) (hs : s.size ≤ 1000000) (ha : ∀ i (h : i < s.size), (s[i]'h).toNat < 128) (w : World) : Calls Try.prog 44 #[.string s] w (RetB w (numV (numN false 0 s.data.toList))) := by
  go_enter Try.func44, Try.ntmps44
  go_wp2
  go_loopw [4, 5] (fun nv gv wr => ∃ (i n : Nat) (g : Bool), i ≤ s.size ∧ wr = w.iter s i ∧ nv = .int .i64 n ∧ gv = .bool g ∧ n ≤ 9223372036854775807 ∧ numN false 0 s.data.toList = numN g n (s.data.toList.drop i)) (fun _ _ wr => s.size - posW w.heap.size wr)
  case atStart => exact ⟨0, 0, false, by omega, rfl, rfl, rfl, by omega, by simp⟩
  case round =>
    obtain ⟨i, n, g, hi, rfl, rfl, rfl, hn, he⟩ := hrel
    have HE := Lib.hid he
    have HA := Lib.hid ha
    have HN := Lib.hid hn
    by_cases hlt : i < s.size
    · have hnx := fun ty => run_next_ascii (P := Try.prog) w s i ty hlt (ha i hlt)
      have hd := drop_atL s i hlt
      have HD := Lib.hid hd
      have HP := Lib.hid (And.intro (posW_iter w s i) (posW_iter w s (i + 1)))
      have h128 := ha i hlt
      clear he ha hn hd
      obtain ⟨c, hce⟩ : ∃ c, s[i] = c := ⟨_, rfl⟩
      rw [hce] at hnx HD h128
      clear hce
      by_cases c1 : 48 ≤ c.toNat
      · by_cases c2 : c.toNat ≤ 57
        · clear h128
          have hnot : ¬ (c.toNat < 48 ∨ 57 < c.toNat) := by omega
          cases g with
          | true =>
            have hF : Hid (numN false 0 s.data.toList = numN true n (s.data.toList.drop (i + 1))) := Lib.hid (by rw [HE.out, HD.out, numN_great _ _ _ _ hnot (.inl rfl)])
            clear hnot
            go_wp2
            go_roundw
            case rel => exact ⟨i + 1, n, true, by omega, rfl, rfl, rfl, HN.out, hF.out⟩
            case measure => rw [HP.out.1, HP.out.2]; omega
          | false =>
            obtain ⟨D, hD⟩ : ∃ D : Nat, c.toNat - 48 = D := ⟨_, rfl⟩
            have hDc : (c.toNat : Int) - 48 = (D : Int) := by omega
            have hD9 : D ≤ 9 := by omega
            by_cases hG : (9223372036854775807 - D) / 10 < n
            · have hF : Hid (numN false 0 s.data.toList = numN true n (s.data.toList.drop (i + 1))) := Lib.hid (by rw [HE.out, HD.out, numN_great _ _ _ _ hnot (.inr (by rw [hD]; exact hG))])
              have e1 : decide ((9223372036854775807 - ((c.toNat : Int) - 48)) / 10 < (n : Int)) = true := decide_eq_true (by rw [hDc]; omega)
              clear hnot hG hDc hD hD9
              go_wp2
              go_roundw
              case rel => exact ⟨i + 1, n, true, by omega, rfl, rfl, rfl, HN.out, hF.out⟩
              case measure => rw [HP.out.1, HP.out.2]; omega
            · have hF : Hid (numN false 0 s.data.toList = numN false (n * 10 + D) (s.data.toList.drop (i + 1))) := Lib.hid (by rw [HE.out, HD.out, numN_next _ _ _ _ hnot (by rw [hD]; intro h; rcases h with h | h; cases h; exact hG h), hD])
              have e1 : decide ((9223372036854775807 - ((c.toNat : Int) - 48)) / 10 < (n : Int)) = false := decide_eq_false (by rw [hDc]; omega)
              have HW : Hid (wrap64 (wrap64 ((n : Int) * 10) + ((c.toNat : Int) - 48)) = ((n * 10 + D : Nat) : Int) ∧ n * 10 + D ≤ 9223372036854775807) := Lib.hid (by
                have h2 : n * 10 + D ≤ 9223372036854775807 := by omega
                refine ⟨?_, h2⟩
                rw [hDc]
                unfold wrap64
                omega)
              clear hnot hG hDc hD hD9
              go_wp2
              go_roundw
              case rel => exact ⟨i + 1, n * 10 + D, false, by omega, rfl, val_int HW.out.1, rfl, HW.out.2, hF.out⟩
              case measure => rw [HP.out.1, HP.out.2]; omega
        · have hF : Hid (numN false 0 s.data.toList = 11) := Lib.hid (by rw [HE.out, HD.out, numN_bad _ _ _ _ (.inr (by omega))])
          obtain ⟨X, hX, hX9⟩ : ∃ X : Int, wrap64 (wrap32 ((c.toNat : Int) - 48)) = X ∧ 9 < X := ⟨(c.toNat : Int) - 48, by unfold wrap64 wrap32; omega, by omega⟩
          have hX0 : 0 ≤ X := by omega
          clear h128 c1 c2
          go_wp2
          go_ret2
          exact ⟨by rw [hF.out]; rfl, iter_below _ _ _⟩
      · have hF : Hid (numN false 0 s.data.toList = 11) := Lib.hid (by rw [HE.out, HD.out, numN_bad _ _ _ _ (.inl (by omega))])
        obtain ⟨X, hX, hX9⟩ : ∃ X : Int, wrap64 (wrap32 ((c.toNat : Int) - 48)) = X ∧ X < 0 := ⟨(c.toNat : Int) - 48, by unfold wrap64 wrap32; omega, by omega⟩
        clear h128 c1
        go_wp2
        go_ret2
        exact ⟨by rw [hF.out]; rfl, iter_below _ _ _⟩
    · obtain rfl : i = s.size := by omega
      have hnx := fun ty => run_next_end (P := Try.prog) w s s.size ty (by omega)
      have hF : Hid (numN false 0 s.data.toList = if g = true then 5 else 0) := Lib.hid (by rw [he, List.drop_eq_nil_of_le (by rw [szL]; exact Nat.le_refl _)]; rfl)
      clear he hn HE HN HA ha
      cases g with
      | true =>
        go_wp2
        go_ret2
        exact ⟨by rw [hF.out]; rfl, iter_below _ _ _⟩
      | false =>
        go_wp2
        go_ret2
        exact ⟨by rw [hF.out]; rfl, iter_below _ _ _⟩
/-- A text that came back. -/
def RetTxt (w : World) : TxR → Ending → World → Prop
  | .bad k, e, w' => e = .returned (.tuple #[.agg #[.int .u8 0, .string ⟨#[]⟩, .int .i64 0], .int .i64 0, .int .i64 (k : Int)]) ∧ Below w.heap.size w w'
  | .ok b n, e, w' => e = .returned (.tuple #[.agg #[.int .u8 4, .string (str b), .int .i64 0], .int .i64 (n : Int), .int .i64 0]) ∧ Below w.heap.size w w'
end Go.Proofs.Ytbmfojeklhbocaa
