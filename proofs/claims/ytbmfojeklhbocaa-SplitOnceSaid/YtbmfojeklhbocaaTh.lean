/-
  Split: that conditions are ready alike (plain); the law's great.
-/
import Derived.Test.YtbmfojeklhbocaaTg
set_option linter.unusedSimpArgs false
set_option linter.unusedVariables false
namespace Go.Proofs.Ytbmfojeklhbocaa
open Go.RowKit

theorem or_bit (f i : Nat) : ∀ (l : List Tm) (s : Nat), (l.foldl (fun s a => s ||| usT f a) s).testBit i = (s.testBit i || l.any fun a => (usT f a).testBit i)
  | [], s => by simp
  | a :: l, s => by rw [List.foldl_cons, or_bit f i l, Nat.testBit_or, List.any_cons, Bool.or_assoc]
theorem any_flat (f : Nat) (p : Tm → Bool) : ∀ l : List Tm, (l.flatMap (fdT f)).any p = l.any fun a => (fdT f a).any p
  | [] => rfl
  | a :: l => by rw [List.flatMap_cons, List.any_append, any_flat f p l, List.any_cons]
theorem us_bit (i : Nat) (hi : i < 32) : ∀ (f : Nat) (t : Tm), (usT f t).testBit i = hasT f t (i : Int)
  | 0, t => by simp [usT, hasT, fdT]
  | f + 1, .mk h A n c args => by
    unfold hasT
    rw [usT_succ, fdT_succ]
    by_cases hk : h.k = 2
    · rw [if_pos hk, if_pos hk]
      show _ = ([Tm.mk h A n c args].any fun x => x.h.tb == (i : Int))
      rw [List.any_cons, List.any_nil, Bool.or_false]
      show _ = (h.tb == (i : Int))
      by_cases ht : h.tb < 0 ∨ 31 < h.tb
      · rw [if_pos ht, Nat.zero_testBit]
        symm
        rw [beq_eq_false_iff_ne]
        omega
      · rw [if_neg ht, Nat.testBit_two_pow]
        rw [Bool.eq_iff_iff]
        simp only [decide_eq_true_iff, beq_iff_eq]
        omega
    · rw [if_neg hk, if_neg hk, or_bit, Nat.zero_testBit, Bool.false_or, any_flat]
      congr 1
      funext a
      exact us_bit i hi f a
theorem anN_bit (s b i : Nat) (hb : b < 4294967296) : (anN s b).testBit i = (s.testBit i && (decide (i < 32) && !b.testBit i)) := by
  unfold anN
  have e : 4294967295 - b = 2 ^ 32 - (b + 1) := by omega
  rw [Nat.testBit_and, e, Nat.testBit_two_pow_sub_succ (by omega)]
theorem bit_ge {s i : Nat} (hs : s < 4294967296) (hi : 32 ≤ i) : s.testBit i = false := by
  apply Nat.testBit_lt_two_pow
  exact Nat.lt_of_lt_of_le hs (Nat.pow_le_pow_right (n := 2) (by omega) hi)
theorem anN_zero (s b : Nat) (hs : s < 4294967296) (hb : b < 4294967296) : (anN s b == 0) = ((List.range 32).filter fun i => s.testBit i).all fun i => b.testBit i := by
  rw [Bool.eq_iff_iff, beq_iff_eq, List.all_eq_true]
  constructor
  · intro h x hx
    obtain ⟨h1, h2⟩ := List.mem_filter.1 hx
    have hx32 : x < 32 := by simpa using h1
    have h3 : (anN s b).testBit x = false := by rw [h, Nat.zero_testBit]
    rw [anN_bit s b x hb, h2] at h3
    simpa [hx32] using h3
  · intro h
    apply Nat.eq_of_testBit_eq
    intro i
    rw [Nat.zero_testBit, anN_bit s b i hb]
    by_cases hi : i < 32
    · cases hsb : s.testBit i with
      | false => rfl
      | true =>
        have := h i (List.mem_filter.2 ⟨by simpa using hi, hsb⟩)
        rw [this]; simp
    · rw [bit_ge hs (by omega)]; rfl
theorem rdy_eq (s had now : Nat) (hs : s < 4294967296) (hh : had < 4294967296) (hn : now < 4294967296) : rdyB s had now = rrdyB ((List.range 32).filter fun i => s.testBit i) had now := by
  unfold rdyB rrdyB
  rw [anN_zero s now hs hn]
  congr 1
  have h1 : (anN s had != 0) = !(anN s had == 0) := rfl
  rw [h1, ← anN_zero s had hs hh]
  by_cases h0 : had = 0
  · subst h0
    have e : anN s 0 = s := by
      apply Nat.eq_of_testBit_eq
      intro i
      rw [anN_bit s 0 i (by omega), Nat.zero_testBit]
      by_cases hi : i < 32
      · simp [hi]
      · rw [bit_ge hs (by omega)]; rfl
    rw [e]
    cases (s == 0) <;> rfl
  · have e1 : (had == 0) = false := by simpa using h0
    have e2 : (had != 0) = true := by simpa using h0
    rw [e1, e2]
    simp
theorem usL_bits (f : Nat) (t : Tm) : usL f t 32 = (List.range 32).filter fun i => (usT f t).testBit i := by
  unfold usL
  apply List.filter_congr
  intro x hx
  rw [us_bit x (by simpa using hx)]
theorem ready_same (f : Nat) (t : Tm) (had now : Nat) (hh : had < 4294967296) (hn : now < 4294967296) : rdyB (usT f t) had now = rrdyB (usL f t 32) had now := by
  rw [usL_bits]
  exact rdy_eq _ _ _ (usT_lt f t) hh hn

/-- Are conditions more than is gone through? -/
def grTL (l : List Tm) : Bool := decide (40 < l.length) || l.any (grT 21 20)
set_option maxHeartbeats 2000000 in
theorem greatL_any (A : Option Addr) (n c : Nat) (l : List Tm) (w : World) (hr : Reads w w.heap.size 11 A n (vT l)) (hin : ∀ t ∈ l, TmIn w w.heap.size t) (hn : n ≤ maxLen) :
    Calls Try.prog 16 #[.slice A n c] w (RetB w (.bool (grTL l))) := by
  have hl : l.length = n := by have := hr.1; rw [vT_len] at this; omega
  unfold maxLen at hn
  have hnI : (n : Int) ≤ 9223372036854775807 := by omega
  have GR := Lib.hid fun (t : Tm) (W : World) (ht : t ∈ l) (hb : Below w.heap.size w W) => great18_any 21 20 t W (((hin t ht).under hb).more hb.size) (by omega) (by omega) (by omega)
  by_cases h40 : 40 < n
  · have g : (40 : Int) < (n : Int) := by omega
    have hF : Hid (grTL l = true) := Lib.hid (by unfold grTL; rw [hl]; simp [h40])
    clear hl hr hin h40
    go_enter Try.func16, Try.ntmps16
    go_wp2
    go_ret
    exact ⟨by rw [hF.out]; rfl, Below.refl _ _⟩
  · have g : (n : Int) ≤ 40 := by omega
    have hF : Hid (grTL l = l.any (grT 21 20)) := Lib.hid (by unfold grTL; rw [hl]; simp [h40])
    have Hl := Lib.hid hl
    clear hl h40 hin
    go_enter Try.func16, Try.ntmps16
    go_wp2
    go_loopw [10] (fun i wr => ∃ k : Nat, k ≤ n ∧ i = .int .i64 k ∧ (l.take k).any (grT 21 20) = false ∧ Below w.heap.size w wr) (fun i _ => n - (intOf i).toNat)
    case atStart => exact ⟨0, Nat.zero_le _, rfl, rfl, Below.refl _ _⟩
    case round =>
      obtain ⟨k, hk, rfl, hany, hb⟩ := hrel
      have q0 : (0 : Int) ≤ (k : Int) := by omega
      have Hany := Lib.hid hany
      clear hany
      by_cases hlt : k < n
      · have q1 : (k : Int) < (n : Int) := by omega
        obtain ⟨ad, v, rfl, hab, hv, hat⟩ := (hr.below hb).tm hlt
        have HC := fun W hbW => GR.out v W (List.mem_of_getElem? hv) hbW
        have hstep := any_take (p := grT 21 20) hv
        rw [Hany.out, Bool.false_or] at hstep
        have hall : Hid (grT 21 20 v = true → l.any (grT 21 20) = true) := Lib.hid fun hbt => List.any_eq_true.2 ⟨v, List.mem_of_getElem? hv, hbt⟩
        obtain ⟨b, hbv⟩ : ∃ b, grT 21 20 v = b := ⟨_, rfl⟩
        rw [hbv] at HC hstep hall
        have Hstep := Lib.hid hstep
        have HCC := Lib.hid HC
        clear hv hstep hbv HC
        obtain ⟨⟨k1, op1, no1, ⟨vk1, vi1, vs1⟩, of1, nm1, tb1, cl1⟩, A1, n1, c1, l1⟩ := v
        obtain ⟨y0, y1, y2, y3, y4, y5, y6, y7, y8, y9, y10⟩ := hat
        simp only [Tm.agg, TmH.agg, Tm.h, Tm.A, Tm.n, Tm.c] at HCC y0 y1 y2 y3 y4 y5 y6 y7 y8 y9 y10
        cases b
        · go_wp2_with fail
          refine (HCC.out _ (ball hb _)).mono ?_
          rintro e w1 ⟨rfl, hb1⟩
          go_wp2
          go_roundw
          case rel => exact ⟨k + 1, by omega, by go_num, Hstep.out, bto0 (ball hb _) hb1⟩
          case measure => simp [intOf]; omega
        · have hT : Hid (l.any (grT 21 20) = true) := Lib.hid (hall.out (by first | trivial | rfl))
          go_wp2_with fail
          refine (HCC.out _ (ball hb _)).mono ?_
          rintro e w1 ⟨rfl, hb1⟩
          go_wp2
          go_ret
          exact ⟨by rw [hF.out, hT.out]; rfl, bto0 (ball hb _) hb1⟩
      · obtain rfl : k = n := by omega
        have hN : Hid (l.any (grT 21 20) = false) := Lib.hid (by have := Hany.out; rwa [List.take_of_length_le (by rw [Hl.out]; exact Nat.le_refl _)] at this)
        go_wp2
        go_ret
        exact ⟨by rw [hF.out, hN.out]; rfl, hb⟩
end Go.Proofs.Ytbmfojeklhbocaa
