/-
  Leaf pages: the law LeafChild: its walk.
-/
import Derived.Test.YtgdipljaddodhaaYy
set_option linter.unusedSimpArgs false
namespace Go.Proofs.Ytgdipljaddodhaa
open Go.RowKit

set_option maxHeartbeats 4000000 in
theorem leafChild_any (A : Option Addr) (n c : Nat) (l : List En) (x : En) (w : World) (hr : Reads w w.heap.size 3 A n (vE l)) (hok : ∀ e ∈ l, e.ok) (hx : x.ok) (hn : n ≤ maxLen) :
    Calls Try.prog 7 #[.slice A n c, x.agg] w (RetB w (.bool true)) := by
  have hl : l.length = n := by have := hr.1; rw [vE_len] at this; omega
  have G1 := fun (W : World) (h : Below w.heap.size w W) => greatE_any A n c l W w.heap.size (hr.below h) (fun v hv => (hok v hv).1) hn
  have G2 := fun (W : World) (B : Nat) (g : Nat) (h : Reads W B 3 (some ⟨g, 0, none⟩) 1 (vE [x])) => greatE_any (some ⟨g, 0, none⟩) 1 1 [x] W B h (by intro v hv; simp at hv; subst hv; exact hx.1) (by decide)
  by_cases g1 : grE 0 l = true
  · rw [g1] at G1
    have HG1 := Lib.hid G1; clear G1 g1 G2 hl
    obtain ⟨s, p, q⟩ := x
    unfold En.agg
    simp only
    go_enter Try.func7, Try.ntmps7
    go_wp2_with fail
    refine (HG1.out _ (ball (Below.refl _ _) _)).mono ?_
    rintro e w1 ⟨rfl, rfl⟩
    go_wp2_with fail
    refine (fixed10_any _).mono ?_
    rintro e w2 ⟨rfl, hb2⟩
    go_wp2
    go_ret
    exact ⟨rfl, by (with_reducible repeat (first | exact Below.refl _ _ | exact hb2 | refine bto0 ?_ hb2 | refine bdr ?_ _ | refine Below.drew ?_ | refine ball ?_ _))⟩
  · have g1' : grE 0 l = false := by simpa using g1
    clear g1
    rw [g1'] at G1
    have HG1 := Lib.hid G1; clear G1
    by_cases g2 : grE 0 [x] = true
    · rw [g2] at G2
      have HG2 := Lib.hid G2; clear G2 g2 g1' hl
      obtain ⟨s, p, q⟩ := x
      unfold En.agg
      simp only
      go_enter Try.func7, Try.ntmps7
      go_wp2_with fail
      refine (HG1.out _ (ball (Below.refl _ _) _)).mono ?_
      rintro e w1 ⟨rfl, rfl⟩
      go_wp2_with fail
      refine (HG2.out _ _ _ (reads_at _ #[.string s, .int .u32 p, .int .u16 q] _ (by simp) rfl rfl)).mono ?_
      rintro e w1 ⟨rfl, rfl⟩
      go_wp2_with fail
      refine (fixed10_any _).mono ?_
      rintro e w2 ⟨rfl, hb2⟩
      go_wp2
      go_ret
      exact ⟨rfl, by (with_reducible repeat (first | exact Below.refl _ _ | exact hb2 | refine bto0 ?_ hb2 | refine bdr ?_ _ | refine Below.drew ?_ | refine ball ?_ _))⟩
    · have g2' : grE 0 [x] = false := by simpa using g2
      rw [g2'] at G2
      have HG2 := Lib.hid G2; clear G2 g2 g2'
      have hn9 : n ≤ 9000 := by have := (sumE_bd g1').2.1; omega
      have Hl := Lib.hid hl; clear hl g1' hn
      have hnI : (n : Int) ≤ 9000 := by omega
      have HT := Lib.hid fun k v (h : l[k]? = some v) => chN_take (x := x) h
      have HC := Lib.hid fun W (h : Below w.heap.size w W) => child_any A n c l x W ((hr.below h).more h.size) (by omega)
      have HLs : Hid (∀ v W, Calls Try.prog 11 #[x.agg, v.agg] W (RetB W (.bool (! decide (cmpE v x ≤ 0))))) := Lib.hid fun v W => by
        have h := lessE_any x v W
        rw [lessE_cmp, cmpE_swap v x] at h
        have e : decide (-cmpE v x < 0) = !decide (cmpE v x ≤ 0) := by
          by_cases hd : cmpE v x ≤ 0
          all_goals simp [hd] <;> omega
        rwa [e] at h
      have HLe := Lib.hid (chN_le l x)
      clear hx
      obtain ⟨s, p, q⟩ := x
      have hA : AtE ((w.alloc (.cells #[.string s, .int .u32 p, .int .u16 q] 27)).alloc (.cells #[.string s, .int .u32 p, .int .u16 q] 27)) w.heap.size ⟨s, p, q⟩ := (AtE.new w ⟨s, p, q⟩ _).below (ball (Below.refl _ _) _)
      have hb0 : Below w.heap.size w ((w.alloc (.cells #[.string s, .int .u32 p, .int .u16 q] 27)).alloc (.cells #[.string s, .int .u32 p, .int .u16 q] 27)) := ball (ball (Below.refl _ _) _) _
      unfold En.agg at *
      simp only at *
      go_enter Try.func7, Try.ntmps7
      go_wp2_with fail
      refine (HG1.out _ (ball (Below.refl _ _) _)).mono ?_
      rintro e w1 ⟨rfl, rfl⟩
      go_wp2_with fail
      refine (HG2.out _ _ _ (reads_at _ #[.string s, .int .u32 p, .int .u16 q] _ (by simp) rfl rfl)).mono ?_
      rintro e w1 ⟨rfl, rfl⟩
      go_wp2_with fail
      obtain ⟨W0, hW0⟩ : ∃ W0, (w.alloc (.cells #[.string s, .int .u32 p, .int .u16 q] 27)).alloc (.cells #[.string s, .int .u32 p, .int .u16 q] 27) = W0 := ⟨_, rfl⟩
      rw [hW0] at hA hb0 ⊢
      clear hW0
      go_loopw [5, 18] (fun m i wr => ∃ k : Nat, k ≤ n ∧ i = .int .i64 k ∧ m = .int .i64 (chN (l.take k) ⟨s, p, q⟩ : Nat) ∧ Below W0.heap.size W0 wr) (fun _ i _ => n - (intOf i).toNat)
      case atStart => exact ⟨0, Nat.zero_le _, rfl, rfl, Below.refl _ _⟩
      case round =>
        obtain ⟨k, hk, rfl, rfl, hb⟩ := hrel
        have r0 : (0 : Int) ≤ (k : Int) := by omega
        have hbw := bto0 hb0 hb
        by_cases hlt : k < n
        · have r1 : (k : Int) < (n : Int) := by omega
          obtain ⟨ad, v, rfl, hab, hv, d0, d1, d2⟩ := (hr.below hbw).ent hlt
          have HS := Lib.hid (HT.out k v hv)
          have hle := HLe.out k
          have C := HLs.out v
          obtain ⟨q0, q1, q2⟩ := hA.below hb
          obtain ⟨t, x, y⟩ := v
          simp only at d0 d1 d2 C q0 q1 q2
          obtain ⟨T, hT⟩ : ∃ T, chN (l.take k) ⟨s, p, q⟩ = T := ⟨_, rfl⟩
          rw [hT] at HS hle ⊢
          clear hT hv
          have t0 : (0 : Int) ≤ (T : Int) := by omega
          have t1 : (T : Int) ≤ 9000 := by omega
          have hbl := (cell_block q0)
          by_cases hd : cmpE ⟨t, x, y⟩ ⟨s, p, q⟩ ≤ 0
          all_goals
            first | rw [if_pos hd] at HS | rw [if_neg hd] at HS
            simp only [hd, decide_true, decide_false, Bool.not_true, Bool.not_false] at C
            have HC1 := Lib.hid C
            clear C hd
            go_wp2_with fail
            refine (HC1.out _).mono ?_
            rintro e w1 ⟨rfl, hb1⟩
            go_wp2
            go_roundw
            case rel => exact ⟨k + 1, by omega, by go_num, val_int (by rw [HS.out]; omega), bto0 (ball hb _) hb1⟩
            case measure => simp [intOf]; omega
        · obtain rfl : k = n := by omega
          have hT : Hid (chN (l.take k) ⟨s, p, q⟩ = chN l ⟨s, p, q⟩) := Lib.hid (by rw [List.take_of_length_le (by rw [Hl.out]; exact Nat.le_refl _)])
          rw [hT.out]
          obtain ⟨T, hT⟩ : ∃ T, chN l ⟨s, p, q⟩ = T := ⟨_, rfl⟩
          rw [hT] at HC ⊢
          have HTT := Lib.hid hT; clear hT
          go_wp2_with fail
          refine (fixed10_any _).mono ?_
          rintro e w2 ⟨rfl, hb2⟩
          have hbb := bto0 hb hb2
          obtain ⟨q0, q1, q2⟩ := hA.below hbb
          go_wp2_with fail
          refine (HC.out _ (bto0 hb0 hbb)).mono ?_
          rintro e w3 ⟨rfl, hb3⟩
          go_wp2
          go_ret
          exact ⟨rfl, bto0 (bto0 hb0 hbb) hb3⟩
end Go.Proofs.Ytgdipljaddodhaa
