/-
  The child to which an entry leads: contract of Child; the law LeafChild: its walk.
-/
import Derived.Test.YtgdipljaddodhaaYw
set_option linter.unusedSimpArgs false
namespace Go.Proofs.Ytgdipljaddodhaa
open Go.RowKit

/-- How many entries don't stand behind one. -/
def chN (l : List En) (x : En) : Nat := l.countP fun s => decide (cmpE s x ≤ 0)
theorem chN_take {l : List En} {k : Nat} {v x : En} (h : l[k]? = some v) : chN (l.take (k + 1)) x = chN (l.take k) x + (if cmpE v x ≤ 0 then 1 else 0) := by
  unfold chN; rw [List.take_add_one, h, List.countP_append]; simp [List.countP_cons]
theorem chN_le (l : List En) (x : En) (k : Nat) : chN (l.take k) x ≤ k := by
  unfold chN
  have h := List.countP_le_length (l := l.take k) (p := fun s => decide (cmpE s x ≤ 0))
  have h2 : (l.take k).length ≤ k := List.length_take_le _ _
  omega

set_option maxHeartbeats 2000000 in
theorem child_any (A : Option Addr) (n c : Nat) (l : List En) (x : En) (w : World) (hr : Reads w w.heap.size 3 A n (vE l)) (hn : n ≤ 1000000) :
    Calls Try.prog 26 #[.slice A n c, x.agg] w (RetB w (.int .i64 (chN l x : Nat))) := by
  have hl : l.length = n := by have := hr.1; rw [vE_len] at this; omega
  have Hl := Lib.hid hl; clear hl
  have hnI : (n : Int) ≤ 1000000 := by omega
  have HT := Lib.hid fun k v (h : l[k]? = some v) => chN_take (x := x) h
  have HC := Lib.hid fun v W => compareE_any v x W
  have HLe := Lib.hid (chN_le l x)
  obtain ⟨s, p, q⟩ := x
  have hA : AtE (w.alloc (.cells #[.string s, .int .u32 p, .int .u16 q] 27)) w.heap.size ⟨s, p, q⟩ := AtE.new w ⟨s, p, q⟩ _
  have hb0 : Below w.heap.size w (w.alloc (.cells #[.string s, .int .u32 p, .int .u16 q] 27)) := ball (Below.refl _ _) _
  unfold En.agg at *
  simp only at *
  go_enter Try.func26, Try.ntmps26
  go_wp2
  obtain ⟨W0, hW0⟩ : ∃ W0, w.alloc (.cells #[.string s, .int .u32 p, .int .u16 q] 27) = W0 := ⟨_, rfl⟩
  rw [hW0] at hA hb0 ⊢
  clear hW0
  go_loopw [5, 10] (fun m i wr => ∃ k : Nat, k ≤ n ∧ i = .int .i64 k ∧ m = .int .i64 (chN (l.take k) ⟨s, p, q⟩ : Nat) ∧ Below W0.heap.size W0 wr) (fun _ i _ => n - (intOf i).toNat)
  case atStart => exact ⟨0, Nat.zero_le _, rfl, rfl, Below.refl _ _⟩
  case round =>
    obtain ⟨k, hk, rfl, rfl, hb⟩ := hrel
    have r0 : (0 : Int) ≤ (k : Int) := by omega
    have hbw := bto0 hb0 hb
    by_cases hlt : k < n
    · have r1 : (k : Int) < (n : Int) := by omega
      obtain ⟨ad, v, rfl, hab, hv, d0, d1, d2⟩ := (hr.below hbw).ent hlt
      have HS := Lib.hid (HT.out k v hv)
      have hle := HLe.out k
      have C := Lib.hid (HC.out v)
      obtain ⟨q0, q1, q2⟩ := hA.below hb
      generalize cmpE v ⟨s, p, q⟩ = d at *
      obtain ⟨t, x, y⟩ := v
      simp only at d0 d1 d2 C q0 q1 q2
      obtain ⟨T, hT⟩ : ∃ T, chN (l.take k) ⟨s, p, q⟩ = T := ⟨_, rfl⟩
      rw [hT] at HS hle ⊢
      clear hT hv
      have t0 : (0 : Int) ≤ (T : Int) := by omega
      have t1 : (T : Int) ≤ 1000000 := by omega
      have hbl := (cell_block q0)
      by_cases hd : d ≤ 0
      · rw [if_pos hd] at HS
        go_wp2_with fail
        refine (C.out _).mono ?_
        rintro e w1 ⟨rfl, hb1⟩
        go_wp2
        go_roundw
        case rel => exact ⟨k + 1, by omega, by go_num, val_int (by rw [HS.out]; omega), bto0 (ball hb _) hb1⟩
        case measure => simp [intOf]; omega
      · rw [if_neg hd] at HS
        have hd' : (0 : Int) < d := by omega
        go_wp2_with fail
        refine (C.out _).mono ?_
        rintro e w1 ⟨rfl, hb1⟩
        go_wp2
        go_roundw
        case rel => exact ⟨k + 1, by omega, by go_num, val_int (by rw [HS.out]; omega), bto0 (ball hb _) hb1⟩
        case measure => simp [intOf]; omega
    · obtain rfl : k = n := by omega
      have hT : Hid (chN (l.take k) ⟨s, p, q⟩ = chN l ⟨s, p, q⟩) := Lib.hid (by rw [List.take_of_length_le (by rw [Hl.out]; exact Nat.le_refl _)])
      go_wp2
      go_ret
      exact ⟨by rw [hT.out]; rfl, hbw⟩
end Go.Proofs.Ytgdipljaddodhaa
