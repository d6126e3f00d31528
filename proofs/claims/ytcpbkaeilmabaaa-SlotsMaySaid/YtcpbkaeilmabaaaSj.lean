/-
  Slots of a heap page: the reference's Used, Room.
-/
import Derived.Test.YtcpbkaeilmabaaaDt
import Derived.Test.YtcpbkaeilmabaaaSp
namespace Go.Proofs.Ytcpbkaeilmabaaa
open Go.RowKit

def tl (rs : List (List UInt8)) : Nat := (rs.map List.length).sum
theorem tl_tot (rs : List (List UInt8)) : tl rs = tot rs := by
  induction rs with
  | nil => rfl
  | cons r rs ih => rw [tot_cons]; unfold tl at *; simp only [List.map_cons, List.sum_cons]; omega
theorem tot_take_at {rs : List (List UInt8)} {i : Nat} {r : List UInt8} (h : rs[i]? = some r) : tot (rs.take (i + 1)) = tot (rs.take i) + r.length := by
  rw [List.take_add_one, h]; exact tot_snoc _ _
theorem tot_takes (rs : List (List UInt8)) (i : Nat) : tot (rs.take i) ≤ tot rs := by
  have h := tot_app (rs.take i) (rs.drop i)
  rw [List.take_append_drop] at h
  omega
section
variable {w : World} {A : Option Addr} {n c : Nat} {rs : List (List UInt8)}
theorem used_any (next : Int) (hr : Reads w w.heap.size 1 A n (sL rs)) (hn : n ≤ 1000000) (ht : tot rs ≤ 1000000) :
    Calls Try.prog 79 #[.agg #[.int .u32 next, .slice A n c]] w (RetB w (.int .i64 (8 + 4 * n + tot rs : Nat))) := by
  have hl : rs.length = n := by have := hr.1; rw [sL_len] at this; omega
  have HL := Lib.hid hl; clear hl
  have HT := Lib.hid ht; clear ht
  have hX := Blk.new w 89 #[.int .u32 next, .slice A n c]
  have hb := ball (Below.refl w.heap.size w) (.cells #[.int .u32 next, .slice A n c] 89)
  have hr := hr.alloc (Nat.le_refl _) (.cells #[.int .u32 next, .slice A n c] 89)
  have hnI : (n : Int) ≤ 1000000 := by omega
  go_enter Try.func79, Try.ntmps79
  go_wp2
  obtain ⟨W, hW⟩ : ∃ W, (w.alloc (.cells #[.int .u32 next, .slice A n c] 89)) = W := ⟨_, rfl⟩
  rw [hW] at hX hr hb ⊢
  clear hW
  have c1 := hX.cell 1
  go_loop [3, 8] (fun u v => ∃ k : Nat, u = .int .i64 (8 + 4 * k + tot (rs.take k) : Nat) ∧ v = .int .i64 k ∧ k ≤ n) (fun _ v => n - (intOf v).toNat)
  case atStart => exact ⟨0, rfl, rfl, by omega⟩
  case round =>
    obtain ⟨k, rfl, rfl, hk⟩ := hrel
    have g1 : (0 : Int) ≤ (k : Int) := by omega
    by_cases hki : k < n
    · have g2 : (k : Int) < (n : Int) := by omega
      obtain ⟨ad, r, rfl, _, hx, d2⟩ := hr.text hki
      have fs := Lib.hid (tot_take_at hx)
      have f1 := Nat.le_trans (tot_takes rs k) HT.out
      have f2 := Nat.le_trans (tot_takes rs (k + 1)) HT.out
      have hs := str_size r
      obtain ⟨F, hF⟩ : ∃ F, tot (rs.take k) = F := ⟨_, rfl⟩
      rw [fs.out, hF] at f2
      rw [hF] at fs f1 ⊢
      obtain ⟨s, hs'⟩ : ∃ s, str r = s := ⟨_, rfl⟩
      rw [hs'] at hs d2
      have Hs := Lib.hid hs
      have hI : (s.size : Int) ≤ 1000000 := by omega
      clear hF hx hs' hs f2
      go_wp2
      go_round
      case rel => exact ⟨k + 1, by rw [fs.out, ← Hs.out]; go_num, by go_num, by omega⟩
      case measure => simp [intOf]; omega
    · obtain rfl : n = k := by omega
      have e1 : rs.take n = rs := List.take_of_length_le (by rw [HL.out]; exact Nat.le_refl _)
      rw [e1]
      go_wp2
      go_ret
      exact ⟨rfl, hb⟩
theorem rroom_any (next : Int) (hr : Reads w w.heap.size 1 A n (sL rs)) (hn : n ≤ 1000000) (ht : tot rs ≤ 1000000) :
    Calls Try.prog 50 #[.agg #[.int .u32 next, .slice A n c]] w (RetB w (.int .i64 (508 - (8 + 4 * n + tot rs) : Nat))) := by
  have hX := Blk.new w 89 #[.int .u32 next, .slice A n c]
  have hb := ball (Below.refl w.heap.size w) (.cells #[.int .u32 next, .slice A n c] 89)
  have U := Lib.hid fun W (hW : Below w.heap.size w W) => used_any (c := c) next ((hr.below hW).more hW.size) hn ht
  obtain ⟨T, hT⟩ : ∃ T, 8 + 4 * n + tot rs = T := ⟨_, rfl⟩
  have hT2 : T ≤ 6000000 := by omega
  rw [hT] at U ⊢
  clear hT ht hr
  by_cases h5 : 508 < T
  · have h5I : (508 : Int) < (T : Int) := by omega
    go_enter Try.func50, Try.ntmps50
    go_wp2_with fail
    refine (U.out _ hb).mono ?_
    rintro e w1 ⟨rfl, hb1⟩
    go_wp2
    go_ret
    exact ⟨ret_int (by omega), bto0 hb hb1⟩
  · have h5I : (T : Int) ≤ 508 := by omega
    go_enter Try.func50, Try.ntmps50
    go_wp2_with fail
    refine (U.out _ hb).mono ?_
    rintro e w1 ⟨rfl, hb1⟩
    have c0 := (hX.below hb1 hX.lt).cell 0
    have c1 := (hX.below hb1 hX.lt).cell 1
    go_wp2_with fail
    refine (U.out _ (bto0 hb hb1)).mono ?_
    rintro e w2 ⟨rfl, hb2⟩
    go_wp2
    go_ret
    exact ⟨ret_int (by omega), bto0 (bto0 hb hb1) hb2⟩
end
end Go.Proofs.Ytcpbkaeilmabaaa
