/-
  Split: contracts of the reference's Has, Uses, among, Same.
-/
import Derived.Test.YtbmfojeklhbocaaTe
import Derived.Test.YtbmfojeklhbocaaTd
set_option linter.unusedSimpArgs false
set_option linter.unusedVariables false
namespace Go.Proofs.Ytbmfojeklhbocaa
open Go.RowKit

/-- Does a term use a table? -/
def hasT (f : Nat) (t : Tm) (tb : Int) : Bool := (fdT f t).any fun x => x.h.tb == tb
set_option maxHeartbeats 4000000 in
theorem has_any (f d : Nat) (t : Tm) (tb : Int) (hd2 : 2 ≤ d) (w : World) (hin : TmIn w w.heap.size t) (hg : grT f (d : Int) t = false) : Calls Try.prog 35 #[t.agg, .int .i64 tb] w (RetB w (.bool (hasT f t tb))) := by
  have hlen := fd_len' f d t hg (wfT_of _ _ hin)
  have hd40 := grT_deep hg
  have hcap : (2 : Nat) ^ (41 - d) ≤ 2 ^ 39 := Nat.pow_le_pow_right (by omega) (by omega)
  have FD := Lib.hid fun (W : World) (hb : Below w.heap.size w W) => fields_any f d t W hd2 ((hin.under hb).more hb.size) hg
  have hbig : (fdT f t).length ≤ 549755813888 := Nat.le_trans hlen hcap
  unfold hasT
  generalize fdT f t = L at *
  have hp : ∀ v : Tm, (fun x : Tm => x.h.tb == tb) v = (v.h.tb == tb) := fun _ => rfl
  obtain ⟨p, hpe⟩ : ∃ p : Tm → Bool, (fun x : Tm => x.h.tb == tb) = p := ⟨_, rfl⟩
  rw [hpe] at hp ⊢
  have Hp := Lib.hid hp
  clear hp hpe
  have hLI : (L.length : Int) ≤ 549755813888 := by omega
  clear hin hg hlen hcap
  obtain ⟨⟨k0, op0, no0, ⟨vk0, vi0, vs0⟩, of0, nm0, tb0, cl0⟩, A0, n0, c0, l0⟩ := t
  simp only [Tm.agg, TmH.agg, Tm.h, Tm.A, Tm.n, Tm.c] at FD ⊢
  go_enter Try.func35, Try.ntmps35
  go_wp2_with fail
  refine (FD.out _ (ball (Below.refl _ _) _)).mono ?_
  rintro e w1 ⟨A1, c1, rfl, hc1, own1, hb1⟩
  have hbw : Below w.heap.size w w1 := by (with_reducible repeat (first | exact Below.refl _ _ | exact hb1 | refine bto0 ?_ hb1 | refine bdr ?_ _ | refine Below.drew ?_ | refine ball ?_ _))
  have hro := Reads.of_own own1
  clear own1 hb1
  go_wp2_with fail
  go_loop [11] (fun i => ∃ k : Nat, k ≤ L.length ∧ i = .int .i64 k ∧ (L.take k).any p = false) (fun i => L.length - (intOf i).toNat)
  case atStart => exact ⟨0, Nat.zero_le _, rfl, rfl⟩
  case round =>
    obtain ⟨k, hk, rfl, hany⟩ := hrel
    have q0 : (0 : Int) ≤ (k : Int) := by omega
    have Hany := Lib.hid hany
    clear hany
    by_cases hlt : k < L.length
    · have q1 : (k : Int) < (L.length : Int) := by omega
      obtain ⟨ad, v, rfl, hab, hv, hat⟩ := hro.tm hlt
      have y8 := hat.c8
      have hstep := any_take (p := p) hv
      rw [Hany.out, Bool.false_or, Hp.out] at hstep
      by_cases ht : v.h.tb = tb
      · have e1 : (v.h.tb == tb) = true := by simpa using ht
        have hA : Hid (L.any p = true) := Lib.hid (List.any_eq_true.2 ⟨v, List.mem_of_getElem? hv, by rw [Hp.out]; exact e1⟩)
        generalize v.h.tb = q at *
        clear hv hstep hat ht
        go_wp2
        go_ret
        exact ⟨by rw [hA.out]; rfl, hbw⟩
      · have e1 : (v.h.tb == tb) = false := by simpa using ht
        rw [e1] at hstep
        have Hst := Lib.hid hstep
        generalize v.h.tb = q at *
        clear hv hstep hat ht
        go_wp2
        go_round
        case rel => exact ⟨k + 1, by omega, by go_num, Hst.out⟩
        case measure => simp [intOf]; omega
    · have hT : L.take k = L := List.take_of_length_le (by omega)
      have hF := Hany.out
      rw [hT] at hF
      have HF := Lib.hid hF
      clear hT hF
      go_wp2
      go_ret
      exact ⟨by rw [HF.out]; rfl, hbw⟩

/-- The tables that a term uses, below a number. -/
def usL (f : Nat) (t : Tm) (T : Nat) : List Nat := (List.range T).filter fun i => hasT f t (i : Int)
theorem usL_succ (f : Nat) (t : Tm) (k : Nat) : usL f t (k + 1) = usL f t k ++ (if hasT f t (k : Int) then [k] else []) := by
  unfold usL
  rw [List.range_succ, List.filter_append]
  congr 1
  rw [List.filter_cons, List.filter_nil]
theorem usL_len (f : Nat) (t : Tm) (k : Nat) : (usL f t k).length ≤ k := by
  unfold usL
  have := List.length_filter_le (fun i : Nat => hasT f t (i : Int)) (List.range k)
  simpa using this
set_option maxRecDepth 100000 in
set_option maxHeartbeats 4000000 in
theorem ruses_any (f d : Nat) (t : Tm) (T : Nat) (hT : T ≤ 32) (hd2 : 2 ≤ d) (w : World) (hin : TmIn w w.heap.size t) (hg : grT f (d : Int) t = false) : Calls Try.prog 25 #[t.agg, .int .i64 T] w (RetIdx w (usL f t T)) := by
  have HS := Lib.hid fun (i : Nat) (W : World) (hb : Below w.heap.size w W) => has_any f d t (i : Int) hd2 W ((hin.under hb).more hb.size) hg
  have hX := box_at w t 56
  have hX' : AtT ((w.alloc (.cells t.arr 56)).alloc (.cells #[] 3)) ⟨w.heap.size, 0, none⟩ t := hX.under (ball (Below.refl _ _) _) (by simp)
  have hb0 : Below w.heap.size w ((w.alloc (.cells t.arr 56)).alloc (.cells #[] 3)) := ball (ball (Below.refl _ _) _) _
  have hown0 : ((w.alloc (.cells t.arr 56)).alloc (.cells #[] 3)).ownsRow (w.heap.size + 1) 3 1 (.slice (some ⟨w.heap.size + 1, 0, none⟩) 0 0) 0 [] := by
    have h := own_empty (w.alloc (.cells t.arr 56)) 3 1 (g := w.heap.size + 1) (by simp)
    simpa using h
  have hsz0 : w.heap.size + 1 ≤ ((w.alloc (.cells t.arr 56)).alloc (.cells #[] 3)).heap.size := by simp
  obtain ⟨i0, hi0, hz0, hs0, hy0⟩ := int_info8 Try.infoI
  have t0 : (0 : Int) ≤ (T : Int) := by omega
  have t1 : (T : Int) ≤ 32 := by omega
  have Hstp := Lib.hid (usL_succ f t)
  have Hlen := Lib.hid (usL_len f t)
  generalize hasT f t = H at *
  generalize usL f t = U at *
  have hU0 : U 0 = [] := List.eq_nil_of_length_eq_zero (by have := Hlen.out 0; omega)
  clear hX hin hg
  obtain ⟨⟨k0, op0, no0, ⟨vk0, vi0, vs0⟩, of0, nm0, tb0, cl0⟩, A0, n0, c0, l0⟩ := t
  unfold Tm.arr Tm.cells at hX' hb0 hown0 hsz0
  simp only [Tm.agg, TmH.agg, Tm.h, Tm.A, Tm.n, Tm.c] at HS ⊢
  go_enter Try.func25, Try.ntmps25
  go_wp2_with fail
  obtain ⟨W0, hW0⟩ : ∃ W0, (w.alloc (.cells #[.int .u8 k0, .string op0, .bool no0, .int .u8 vk0, .int .i64 vi0, .string vs0, .string of0, .string nm0, .int .i64 tb0, .int .i64 cl0, .slice A0 n0 c0] 56)).alloc (.cells #[] 3) = W0 := ⟨_, rfl⟩
  rw [hW0] at hb0 hX' hown0 hsz0 ⊢
  clear hW0
  go_loopw [5, 6] (fun v i wr => ∃ k : Nat, k ≤ T ∧ i = .int .i64 k ∧ wr.ownsRow (w.heap.size + 1) 3 1 v (U k).length (vI (U k)) ∧ AtT wr ⟨w.heap.size, 0, none⟩ (Tm.mk ⟨k0, op0, no0, ⟨vk0, vi0, vs0⟩, of0, nm0, tb0, cl0⟩ A0 n0 c0 l0) ∧ Below w.heap.size w wr ∧ w.heap.size + 1 ≤ wr.heap.size) (fun _ i _ => T - (intOf i).toNat)
  case atStart => exact ⟨0, Nat.zero_le _, rfl, by rw [hU0]; exact hown0, hX', hb0, hsz0⟩
  case round =>
    clear hb0 hX' hown0 hsz0 hU0
    obtain ⟨k, hk, rfl, hown, hX', hb, hsz⟩ := hrel
    have q0 : (0 : Int) ≤ (k : Int) := by omega
    by_cases hlt : k < T
    · have q1 : (k : Int) < (T : Int) := by omega
      have q2 : (k : Int) < 32 := by omega
      have HC := HS.out k wr hb
      have hst := Hstp.out k
      have hln := Hlen.out k
      generalize U k = I at *
      generalize H (k : Int) = b at *
      have HCC := Lib.hid HC
      have HX := Lib.hid hX'
      obtain ⟨x0, x1, x2, x3, x4, x5, x6, x7, x8, x9, x10⟩ := hX'
      simp only [Tm.h, Tm.A, Tm.n, Tm.c, Nat.zero_add] at x0 x1 x2 x3 x4 x5 x6 x7 x8 x9 x10
      clear HC
      cases b
      · simp only [Bool.false_eq_true, if_false, List.append_nil] at hst
        have Hst := Lib.hid hst
        clear hst
        go_wp2_with fail
        refine HCC.out.mono ?_
        rintro e w1 ⟨rfl, hb1⟩
        have hX2 := HX.out.under hb1 (show w.heap.size < wr.heap.size by omega)
        go_wp2
        go_roundw
        case rel => exact ⟨k + 1, by omega, by go_num, by rw [Hst.out]; exact own_below hown hb1, hX2, bto0 hb hb1, Nat.le_trans hsz hb1.size⟩
        case measure => simp [intOf]; omega
      · simp only [if_true] at hst
        have Hst := Lib.hid hst
        clear hst
        go_wp2_with fail
        refine HCC.out.mono ?_
        rintro e w1 ⟨rfl, hb1⟩
        have hX2 := HX.out.under hb1 (show w.heap.size < wr.heap.size by omega)
        have hown2 := own_below hown hb1
        have hb2 := bto0 hb hb1
        have hsz2 := Nat.le_trans hsz hb1.size
        go_wp2_with (at_builtin; refine wpList_pushX (news := [.int .i64 (k : Int)]) rfl _ _ 39 rfl (w.heap.size + 1) 3 i0 _ 1 8 Try.underlying39 hi0 hz0 hs0 hy0 rfl (by decide) u5 I.length _ rfl hown2 rfl _ rfl rfl rfl (by intro u hu; rw [List.mem_singleton] at hu; subst hu; rfl) (by omega) (by omega) hsz2 ?_; intro v4 w4 hown4 hg4)
        have hk4 := belowX_grown hown2 (Nat.le_refl _) hsz2 hg4 (Below.refl _ _)
        go_roundw
        case rel => exact ⟨k + 1, by omega, by go_num, by rw [Hst.out, vI_app, List.length_append]; exact hown4, hX2.under hk4 (by simp), belowX_grown hown2 (by omega) hsz2 hg4 hb2, Nat.le_trans hsz2 hk4.size⟩
        case measure => simp [intOf]; omega
    · obtain rfl : k = T := by omega
      obtain ⟨A5, c5, rfl, hc5⟩ := own_form hown
      go_wp2
      go_ret
      exact ⟨A5, c5, rfl, hc5, World.ownsRow.mono hown (by omega), hb⟩

set_option maxHeartbeats 1000000 in
theorem among_any (k l : Nat) (hk : k ≤ 1000) (hl : l < 4294967296) (w : World) : Calls Try.prog 34 #[.int .i64 k, .int .u32 l] w fun e w' => e = .returned (.bool (l.testBit k)) ∧ w = w' := by
  have kI : (k : Int) ≤ 1000 := by omega
  have k0 : (0 : Int) ≤ (k : Int) := by omega
  go_enter Try.func34, Try.ntmps34
  go_wp2
  go_loop [1, 5] (fun v i => ∃ j : Nat, j ≤ k ∧ i = .int .i64 j ∧ v = .int .u32 ((l / 2 ^ j : Nat) : Int)) (fun _ i => k - (intOf i).toNat)
  case atStart => exact ⟨0, Nat.zero_le _, rfl, by rw [Nat.pow_zero, Nat.div_one]⟩
  case round =>
    obtain ⟨j, hj, rfl, rfl⟩ := hrel
    have q0 : (0 : Int) ≤ (j : Int) := by omega
    have hle : l / 2 ^ j ≤ l := Nat.div_le_self _ _
    by_cases hlt : j < k
    · have q1 : (j : Int) < (k : Int) := by omega
      have hst : l / 2 ^ (j + 1) = l / 2 ^ j / 2 := by rw [Nat.pow_succ, Nat.div_div_eq_div_mul]
      obtain ⟨Q, hQ⟩ : ∃ Q, l / 2 ^ j = Q := ⟨_, rfl⟩
      rw [hQ] at hst hle ⊢
      have Hst := Lib.hid hst
      have Q0 : (0 : Int) ≤ (Q : Int) := by omega
      have Q1 : (Q : Int) ≤ 4294967295 := by omega
      clear hst hQ hl hle
      go_wp2
      go_round
      case rel => exact ⟨j + 1, by omega, by go_num, val_int (by rw [Hst.out]; first | omega | (simp; omega))⟩
      case measure => simp [intOf]; omega
    · obtain rfl : j = k := by omega
      have hbit : l.testBit j = decide (l / 2 ^ j % 2 = 1) := Nat.testBit_eq_decide_div_mod_eq
      obtain ⟨Q, hQ⟩ : ∃ Q, l / 2 ^ j = Q := ⟨_, rfl⟩
      rw [hQ] at hbit hle ⊢
      have Hb := Lib.hid hbit
      have Q0 : (0 : Int) ≤ (Q : Int) := by omega
      have Q1 : (Q : Int) ≤ 4294967295 := by omega
      clear hbit hQ hl hle
      by_cases h1 : Q % 2 = 1
      · have e1 : ((Q : Int) % 2 == 1) = true := by simp; omega
        have Hb1 : Hid (l.testBit j = true) := Lib.hid (by rw [Hb.out]; simp [h1])
        clear h1
        go_wp2
        go_ret
        exact ⟨by rw [Hb1.out]; rfl, rfl⟩
      · have e1 : ((Q : Int) % 2 == 1) = false := by simp; omega
        have Hb1 : Hid (l.testBit j = false) := Lib.hid (by rw [Hb.out]; simp [h1])
        clear h1
        go_wp2
        go_ret
        exact ⟨by rw [Hb1.out]; rfl, rfl⟩
set_option maxHeartbeats 2000000 in
theorem sameI_any (A : Option Addr) (n c : Nat) (A2 : Option Addr) (c2 : Nat) (l : List Nat) (w : World) (hr : Reads w w.heap.size 1 A n (vI l)) (hr2 : Reads w w.heap.size 1 A2 n (vI l)) (hn : n ≤ 1000000) :
    Calls Try.prog 22 #[.slice A n c, .slice A2 n c2] w (RetB w (.bool true)) := by
  have hnI : (n : Int) ≤ 1000000 := by omega
  go_enter Try.func22, Try.ntmps22
  go_wp2
  go_loopw [13] (fun iv wr => ∃ j : Nat, j ≤ n ∧ iv = .int .i64 j ∧ Below w.heap.size w wr) (fun iv _ => n - (intOf iv).toNat)
  case atStart => exact ⟨0, by omega, rfl, Below.refl _ _⟩
  case round =>
    obtain ⟨j, hj, rfl, hb⟩ := hrel
    have q0 : (0 : Int) ≤ (j : Int) := by omega
    by_cases hlt : j < n
    · have q1 : (j : Int) < (n : Int) := by omega
      obtain ⟨ad, u, rfl, hab, hu, d0⟩ := (hr.below hb).at_ hlt
      obtain ⟨ad2, u2, rfl, hab2, hu2, d20⟩ := (hr2.below hb).at_ hlt
      rw [hu] at hu2
      injection hu2 with hu2
      subst hu2
      unfold vI at hu
      rw [List.getElem?_map] at hu
      obtain ⟨x, hx, rfl⟩ := Option.map_eq_some_iff.1 hu
      clear hu hx
      go_wp2
      go_quiet (fail)
      go_wp2
      go_roundw
      case rel => exact ⟨j + 1, by omega, by go_num, bdr hb _⟩
      case measure => simp [intOf]; omega
    · go_wp2
      go_ret
      exact ⟨rfl, hb⟩
end Go.Proofs.Ytbmfojeklhbocaa
