/-
  The law CalcSum's walk.
-/
import Derived.Test.YtegnoheaglnhhabNh
namespace Go.Proofs.Ytegnoheaglnhhab
open Go.RowKit

theorem Try.infoI64 : (Try.prog.info? 2).map (fun i => (i.zero, i.size, i.bytes)) = some (some (.int .i64 0), 1, 8) := by kernel_rfl
theorem sum_turn (l : List Int) (k : Nat) : (l.drop k ++ l.take k).sum = l.sum := by
  rw [List.sum_append, Int.add_comm, ← List.sum_append, List.take_append_drop]

set_option maxHeartbeats 2000000 in
theorem calcSum_any (A : Option Addr) (n c : Nat) (l : List Int) (b : Nat) (w : World) (hr : Reads w w.heap.size 1 A n (vI64 l)) (hl0 : ∀ x ∈ l, rngP x) (hnc : n ≤ c) (_hcm : c ≤ maxLen) (hb1 : b ≤ 255) :
    Calls Try.prog 3 #[.slice A n c, .int .u8 b] w (RetB w (.bool true)) := by
  obtain ⟨i0, hi0, hz0, hz1, hz2⟩ := int_info8 Try.infoI64
  by_cases hn : 500 < n
  · go_enter Try.func3, Try.ntmps3
    go_wp2_with (go_at_call 6; refine (cfixed_any _).mono ?_; rintro e w1 ⟨rfl, hb1⟩)
    go_ret
    exact ⟨rfl, hb1⟩
  · by_cases h0 : n = 0
    · subst h0
      go_enter Try.func3, Try.ntmps3
      go_wp2_with (go_at_call 6; refine (cfixed_any _).mono ?_; rintro e w1 ⟨rfl, hb1⟩)
      go_ret
      exact ⟨rfl, hb1⟩
    · have hn0 : ((n : Int) == 0) = false := by simp; omega
      have hpos : (0 : Int) < n := by omega
      obtain ⟨k, hk⟩ : ∃ k, k = b % n := ⟨_, rfl⟩
      have hkn : k < n := by rw [hk]; exact Nat.mod_lt _ (by omega)
      have hm : (b : Int) % (n : Int) = (k : Int) := by rw [hk]; omega
      clear hk
      obtain ⟨ad, _, rfl, _, _, _⟩ := hr.at_ (show 0 < n by omega)
      have hv1 : ∀ u ∈ vI64 (l.drop k), u.oneCell' = true := vI64_one _
      have hv2 : ∀ u ∈ vI64 (l.take k), u.oneCell' = true := vI64_one _
      have r1 : Reads w w.heap.size 1 (some (ad.add k)) (n - k) (vI64 (l.drop k)) := by have := hr.dropc k (by omega); simpa [vI64] using this
      have r2 : Reads w w.heap.size 1 (some ad) k (vI64 (l.take k)) := by have := hr.takec k (by omega); simpa [vI64] using this
      have hs := sum_turn l k
      have hlt : ∀ x ∈ l.drop k ++ l.take k, rngP x := by
        intro x hx
        rcases List.mem_append.1 hx with hx | hx
        · exact hl0 x (List.mem_of_mem_drop hx)
        · exact hl0 x (List.mem_of_mem_take hx)
      obtain ⟨RX, hRX⟩ : ∃ X, numN l.sum = X := ⟨_, rfl⟩
      obtain ⟨RQ, hRQ⟩ : ∃ X, decide (rngP l.sum) = X := ⟨_, rfl⟩
      have hR : numR l.sum = .tuple #[.int .i64 RX, .bool RQ] := by unfold numR; rw [hRX, hRQ]
      have C1 : Hid (∀ W, Below w.heap.size w W → Calls Try.prog 7 #[.slice (some ad) n c] W fun e w' => e = .returned (.tuple #[.int .i64 RX, .bool RQ]) ∧ W = w') := by
        intro W hb
        have h := csum_any (some ad) n c l W _ (hr.up hb) hl0 (by omega)
        rw [hR] at h
        exact h
      have C2 : Hid (∀ W, Below w.heap.size w W → Calls Try.prog 8 #[.slice (some ad) n c] W (RetB W (.tuple #[.int .i64 RX, .bool RQ]))) := by
        intro W hb
        have h := rsum_any (some ad) n c l W (hr.up hb) hl0 (by omega)
        rw [hR] at h
        exact h
      have C3 : Hid (∀ (A2 : Option Addr) (c2 : Nat) (W : World), Reads W W.heap.size 1 A2 n (vI64 (l.drop k ++ l.take k)) → Calls Try.prog 7 #[.slice A2 n c2] W fun e w' => e = .returned (.tuple #[.int .i64 RX, .bool RQ]) ∧ W = w') := by
        intro A2 c2 W hb
        have h := csum_any A2 n c2 (l.drop k ++ l.take k) W _ hb hlt (by omega)
        rw [hs, hR] at h
        exact h
      clear hs hlt hR hRX hRQ
      go_enter Try.func3, Try.ntmps3
      go_wp2_with (first
        | (go_at_call 7; (with_reducible refine (C1.out _ (Below.refl _ _)).mono ?_); rintro e w' ⟨rfl, rfl⟩)
        | (go_at_call 8; (with_reducible refine (C2.out _ (Below.refl _ _)).mono ?_); rintro e w1 ⟨rfl, hb1⟩; have hw0 : Below w.heap.size w (w1.alloc (.cells #[] 2)) := ball hb1 _; have ho0 := own_empty w1 2 1 rfl)
        | (at_builtin; refine wpList_append_any _ rfl _ _ 22 rfl w1.heap.size 2 i0 (.int .i64 0) 1 8 Try.underlying22 hi0 hz0 hz1 hz2 rfl (by decide) (.slice (some ⟨w1.heap.size, 0, none⟩) 0 0) 0 [] rfl ho0 w.heap.size (some (ad.add k)) (n - k) (c - k) (vI64 (l.drop k)) rfl (r1.below hw0) hv1 (by unfold maxLen; omega) (by omega) (by simp) ?_; intro v1 w2 hown1 hg1 _; simp only [Nat.zero_add, List.nil_append] at hown1; have hw1 := bgrow hw0 hg1 ho0 hb1.size (by have := hb1.size; simp; omega); have hw1s : w1.heap.size ≤ w2.heap.size := (by have := hg1.size; simp at this; omega); obtain ⟨A1, c1, rfl, hc1⟩ := own_form hown1; clear ho0 hg1)
        | (at_builtin; refine wpList_append_any _ rfl _ _ 22 rfl w1.heap.size 2 i0 (.int .i64 0) 1 8 Try.underlying22 hi0 hz0 hz1 hz2 rfl (by decide) (.slice A1 (n - k) c1) (n - k) (vI64 (l.drop k)) rfl hown1 w.heap.size (some ad) k c (vI64 (l.take k)) rfl (r2.below hw1) hv2 (by unfold maxLen; omega) (by omega) hw1s ?_; intro v2 w3 hown2 hg2 _; rw [show n - k + k = n from by omega] at hown2; have hw2 := bgrow hw1 hg2 hown1 hb1.size hw1.size; obtain ⟨A2, c2, rfl, hc2⟩ := own_form hown2; clear hown1 hg2; rw [show vI64 (l.drop k) ++ vI64 (l.take k) = vI64 (l.drop k ++ l.take k) from (by simp [vI64])] at hown2; have rm := Reads.of_own hown2)
        | (go_at_call 7; (with_reducible refine (C3.out A2 c2 _ rm).mono ?_); rintro e w' ⟨rfl, rfl⟩)
        | (go_at_call 6; refine (cfixed_any _).mono ?_; rintro e w5 ⟨rfl, hb5⟩)
        | fail)
      go_ret
      exact ⟨ret_bool (by simp), bto0 hw2 hb5⟩

end Go.Proofs.Ytegnoheaglnhhab
