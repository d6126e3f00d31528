/-
  Entries of a tree: contracts of the reference's Rise, Size, may.
-/
import Derived.Test.YtgdipljaddodhaaYn
import Derived.BigGuardPart
set_option linter.unusedSimpArgs false
namespace Go.Proofs.Ytgdipljaddodhaa
open Go.RowKit

set_option maxRecDepth 100000 in
set_option maxHeartbeats 4000000 in
theorem rriseE_any (A : Option Addr) (n c : Nat) (l : List En) (w : World) (hr : Reads w w.heap.size 3 A n (vE l)) (hn : n ≤ 1000000) :
    Calls Try.prog 15 #[.slice A n c] w (RetB w (.bool (riseE l))) := by
  have hl : l.length = n := by have := hr.1; rw [vE_len] at this; omega
  have Hl := Lib.hid hl; clear hl
  have hnI : (n : Int) ≤ 1000000 := by omega
  go_enter Try.func15, Try.ntmps15
  go_wp2
  go_loopw [6] (fun i wr => ∃ k : Nat, k ≤ n ∧ i = .int .i64 k ∧ riseE l = riseE (l.drop (k - 1)) ∧ Below w.heap.size w wr) (fun i _ => n - (intOf i).toNat)
  case atStart => exact ⟨0, Nat.zero_le _, rfl, rfl, Below.refl _ _⟩
  case round =>
    obtain ⟨k, hk, rfl, he, hb⟩ := hrel
    have hbs := hb.size
    have q0 : (0 : Int) ≤ (k : Int) := by omega
    by_cases hlt : k < n
    · have q2 : (k : Int) < (n : Int) := by omega
      rcases Nat.eq_zero_or_pos k with hk0 | hk1
      · have hg : decide (0 < k) = false := by simp; omega
        have hg2 : decide ((0 : Int) < (k : Int)) = false := by simp; omega
        have He : Hid (riseE l = riseE (l.drop (k + 1 - 1))) := Lib.hid (by rw [he, hk0])
        have hkI : (k : Int) ≤ 0 := by omega
        clear he hk0
        go_wp2_with fail
        go_quiet (fail)
        go_wp2
        go_roundw
        case rel => exact ⟨k + 1, by omega, by go_num, He.out, bdr hb _⟩
        case measure => simp [intOf]; omega
      · obtain ⟨j, rfl⟩ : ∃ j, k = j + 1 := ⟨k - 1, by omega⟩
        obtain ⟨ad, a, rfl, hab, ha, u0, u1, u2⟩ := (hr.below hb).ent (show j < n by omega)
        obtain ⟨ad2, b, he2, hab2, hbb, v0, v1, v2⟩ := (hr.below hb).ent hlt
        cases he2
        have hd := rise_drop ha hbb
        have HC := fun W => lessE_any a b W
        rw [lessE_cmp] at HC
        rw [Nat.add_sub_cancel] at he
        have He := Lib.hid (he.trans hd)
        clear he hd ha hbb hk1
        obtain ⟨k, hkj⟩ : ∃ k, j + 1 = k := ⟨_, rfl⟩
        have hjI : ((k : Nat) : Int) - 1 = (j : Int) := by omega
        have hw1 : IntKind.i64.wrap ((k : Int) - 1) = (j : Int) := by rw [hjI]; exact IntWalk.i64_in _ (by omega)
        rw [hkj] at v0 v1 v2 hlt q0 q2 hk He ⊢
        have hg : decide (0 < k) = true := by simp; omega
        have hg2 : decide ((0 : Int) < (k : Int)) = true := by simp; omega
        have q3 : (j : Int) < (n : Int) := by omega
        have q4 : j < n := by omega
        have q5 : (0 : Int) ≤ (j : Int) := by omega
        have Hkj := Lib.hid hkj
        clear hjI hkj
        obtain ⟨s, p, q⟩ := a
        obtain ⟨t, y, z⟩ := b
        have hS : Hid (∀ W, Below wr.heap.size wr W → W.cell? (ad.add (j * 3)) = some (.string s) ∧ W.cell? ⟨(ad.add (j * 3)).block, (ad.add (j * 3)).off + 1, none⟩ = some (.int .u32 p) ∧ W.cell? ⟨(ad.add (j * 3)).block, (ad.add (j * 3)).off + 2, none⟩ = some (.int .u16 q) ∧ W.cell? (ad.add (k * 3)) = some (.string t) ∧ W.cell? ⟨(ad.add (k * 3)).block, (ad.add (k * 3)).off + 1, none⟩ = some (.int .u32 y) ∧ W.cell? ⟨(ad.add (k * 3)).block, (ad.add (k * 3)).off + 2, none⟩ = some (.int .u16 z) ∧ Below wr.heap.size wr W) := by
          refine Lib.hid fun W hW => ⟨(hW.cell ?_).trans u0, (hW.cell ?_).trans u1, (hW.cell ?_).trans u2, (hW.cell ?_).trans v0, (hW.cell ?_).trans v1, (hW.cell ?_).trans v2, hW⟩
          all_goals (simp only [block_of_add]; omega)
        unfold En.agg at HC
        simp only at u0 u1 u2 v0 v1 v2 HC
        have hx : Hid (riseE l = (decide (cmpE ⟨s, p, q⟩ ⟨t, y, z⟩ < 0) && riseE (l.drop (k + 1 - 1)))) := Lib.hid (by rw [He.out, Nat.add_sub_cancel])
        clear He
        generalize cmpE ⟨s, p, q⟩ ⟨t, y, z⟩ = x at *
        have Hx := hx
        clear hx
        by_cases hx : x < 0
        · have He1 : Hid (riseE l = riseE (l.drop (k + 1 - 1))) := Lib.hid (by rw [Hx.out]; simp [hx])
          simp only [hx, decide_true] at HC
          have HD := Lib.hid HC
          clear Hx hx HC
          go_wp2_with fail
          go_region_held3 (fun W => W.cell? (ad.add (j * 3)) = some (.string s) ∧ W.cell? ⟨(ad.add (j * 3)).block, (ad.add (j * 3)).off + 1, none⟩ = some (.int .u32 p) ∧ W.cell? ⟨(ad.add (j * 3)).block, (ad.add (j * 3)).off + 2, none⟩ = some (.int .u16 q) ∧ W.cell? (ad.add (k * 3)) = some (.string t) ∧ W.cell? ⟨(ad.add (k * 3)).block, (ad.add (k * 3)).off + 1, none⟩ = some (.int .u32 y) ∧ W.cell? ⟨(ad.add (k * 3)).block, (ad.add (k * 3)).off + 2, none⟩ = some (.int .u16 z) ∧ Below wr.heap.size wr W)
            (first | exact hS.out _ (by (with_reducible repeat (first | exact Below.refl _ _ | exact hb1 | refine bto0 ?_ hb1 | refine bdr ?_ _ | refine Below.drew ?_ | refine ball ?_ _))) | assumption)
            (first | (go_at_call 11; (with_reducible refine (HD.out _).mono ?_); rintro e w1 ⟨rfl, hb1⟩))
          have hbw1 : Below w.heap.size w w1 := bto0 hb (by (with_reducible repeat (first | exact Below.refl _ _ | exact hb1 | refine bto0 ?_ hb1 | refine bdr ?_ _ | refine Below.drew ?_ | refine ball ?_ _)))
          go_wp2
          go_roundw
          case rel => exact ⟨k + 1, by omega, by go_num, He1.out, by first | exact hbw1 | exact bdr hbw1 _⟩
          case measure => simp [intOf]; omega
        · have He1 : Hid (riseE l = false) := Lib.hid (by rw [Hx.out]; simp [hx])
          simp only [hx, decide_false] at HC
          have HD := Lib.hid HC
          clear Hx hx HC
          go_wp2_with fail
          go_region_held3 (fun W => W.cell? (ad.add (j * 3)) = some (.string s) ∧ W.cell? ⟨(ad.add (j * 3)).block, (ad.add (j * 3)).off + 1, none⟩ = some (.int .u32 p) ∧ W.cell? ⟨(ad.add (j * 3)).block, (ad.add (j * 3)).off + 2, none⟩ = some (.int .u16 q) ∧ W.cell? (ad.add (k * 3)) = some (.string t) ∧ W.cell? ⟨(ad.add (k * 3)).block, (ad.add (k * 3)).off + 1, none⟩ = some (.int .u32 y) ∧ W.cell? ⟨(ad.add (k * 3)).block, (ad.add (k * 3)).off + 2, none⟩ = some (.int .u16 z) ∧ Below wr.heap.size wr W)
            (first | exact hS.out _ (by (with_reducible repeat (first | exact Below.refl _ _ | exact hb1 | refine bto0 ?_ hb1 | refine bdr ?_ _ | refine Below.drew ?_ | refine ball ?_ _))) | assumption)
            (first | (go_at_call 11; (with_reducible refine (HD.out _).mono ?_); rintro e w1 ⟨rfl, hb1⟩))
          have hbw1 : Below w.heap.size w w1 := bto0 hb (by (with_reducible repeat (first | exact Below.refl _ _ | exact hb1 | refine bto0 ?_ hb1 | refine bdr ?_ _ | refine Below.drew ?_ | refine ball ?_ _)))
          go_wp2
          go_ret
          exact ⟨by rw [He1.out]; rfl, by first | exact hbw1 | exact bdr hbw1 _⟩
    · have hfin : Hid (riseE l = true) := Lib.hid (by rw [he]; exact rise_end (by rw [Hl.out]; omega))
      have q1 : (n : Int) ≤ (k : Int) := by omega
      clear he
      go_wp2
      go_ret
      exact ⟨by rw [hfin.out]; rfl, hb⟩

/-- How many bytes, with so many beside each key, some at the front. -/
def sizE (each front : Nat) (l : List En) : Nat := front + (l.map fun e => e.s.size + each).sum
theorem sizE_take {l : List En} {k a b : Nat} {v : En} (h : l[k]? = some v) : sizE a b (l.take (k + 1)) = sizE a b (l.take k) + (v.s.size + a) := by
  unfold sizE; rw [List.take_add_one, h]; simp; omega
theorem sizE_sum (a b : Nat) (l : List En) : sizE (8 + a) b l = b + sumE l + a * l.length := by
  unfold sizE sumE
  induction l with
  | nil => simp
  | cons e l ih => simp only [List.map_cons, List.sum_cons, List.length_cons, Nat.mul_add] at ih ⊢; omega
theorem sizE_mono (a b : Nat) (l : List En) (k : Nat) : sizE a b (l.take k) ≤ sizE a b l := by
  have h : sizE a b l = sizE a b (l.take k) + ((l.drop k).map fun e => e.s.size + a).sum := by
    unfold sizE
    conv => lhs; rw [← List.take_append_drop k l]
    rw [List.map_append, List.sum_append]
    omega
  omega
set_option maxHeartbeats 1000000 in
theorem rsize_any (each front : Nat) (A : Option Addr) (n c : Nat) (l : List En) (w : World) (hr : Reads w w.heap.size 3 A n (vE l)) (hn : n ≤ 1000000) (he : each ≤ 100) (hsz : sizE each front l ≤ 1000000) :
    Calls Try.prog 17 #[.slice A n c, .int .i64 each, .int .i64 front] w fun e w' => e = .returned (.int .i64 (sizE each front l : Nat)) ∧ w = w' := by
  have hl : l.length = n := by have := hr.1; rw [vE_len] at this; omega
  have Hl := Lib.hid hl; clear hl
  have heI : (each : Int) ≤ 100 := by omega
  have he0 : (0 : Int) ≤ (each : Int) := by omega
  have hnI : (n : Int) ≤ 1000000 := by omega
  clear he
  go_enter Try.func17, Try.ntmps17
  go_wp2
  go_loop [7, 12] (fun m i => ∃ k : Nat, k ≤ n ∧ i = .int .i64 k ∧ m = .int .i64 (sizE each front (l.take k) : Nat)) (fun _ i => n - (intOf i).toNat)
  case atStart => exact ⟨0, Nat.zero_le _, rfl, rfl⟩
  case round =>
    obtain ⟨k, hk, rfl, rfl⟩ := hrel
    have q0 : (0 : Int) ≤ (k : Int) := by omega
    by_cases hlt : k < n
    · have q1 : (k : Int) < (n : Int) := by omega
      obtain ⟨ad, v, rfl, hab, hv, d0, d1, d2⟩ := hr.ent hlt
      have HS := Lib.hid (sizE_take (a := each) (b := front) hv)
      have hmo := sizE_mono each front l (k + 1)
      rw [HS.out] at hmo
      clear hv
      obtain ⟨s, p, q⟩ := v
      simp only at d0 d1 d2 HS hmo
      obtain ⟨T, hT⟩ : ∃ T, sizE each front (l.take k) = T := ⟨_, rfl⟩
      rw [hT] at HS hmo ⊢
      clear hT
      have t0 : (0 : Int) ≤ (T : Int) := by omega
      have t1 : (T : Int) + (s.size : Int) ≤ 1000000 := by omega
      have t2 : (0 : Int) ≤ (s.size : Int) := by omega
      clear hmo hsz
      go_wp2
      go_round
      case rel => exact ⟨k + 1, by omega, by go_num, val_int (by rw [HS.out]; omega)⟩
      case measure => simp [intOf]; omega
    · obtain rfl : k = n := by omega
      have hT : Hid (sizE each front (l.take k) = sizE each front l) := Lib.hid (by rw [List.take_of_length_le (by rw [Hl.out]; exact Nat.le_refl _)])
      go_wp2
      go_ret
      exact ⟨by rw [hT.out]; rfl, rfl⟩

/-- May entries stand in a page of so many bytes? The error's number. -/
def mayN (l : List En) (sz : Nat) : Nat := if mayEn l then (if 512 < sz then 7 else 0) else 1
set_option maxHeartbeats 1000000 in
theorem rmay_any (sz : Nat) (A : Option Addr) (n c : Nat) (l : List En) (w : World) (hr : Reads w w.heap.size 3 A n (vE l)) (hn : n ≤ 1000000) (hsz : sz ≤ 1000000) :
    Calls Try.prog 35 #[.slice A n c, .int .i64 sz] w (RetB w (.int .i64 (mayN l sz : Nat))) := by
  have hl : l.length = n := by have := hr.1; rw [vE_len] at this; omega
  have Hl := Lib.hid hl; clear hl
  have hnI : (n : Int) ≤ 1000000 := by omega
  have R := rriseE_any A n c l w hr hn
  by_cases hri : riseE l = true
  rotate_left
  · have hri' : riseE l = false := by simpa using hri
    rw [hri'] at R
    have HR := Lib.hid R
    have HF : Hid (mayN l sz = 1) := Lib.hid (by unfold mayN mayEn; rw [hri']; simp)
    clear R hri hri' hsz
    go_enter Try.func35, Try.ntmps35
    go_wp2_with fail
    refine HR.out.mono ?_
    rintro e w1 ⟨rfl, hb1⟩
    go_wp2
    go_ret
    exact ⟨by rw [HF.out]; rfl, hb1⟩
  · rw [hri] at R
    have HR := Lib.hid R
    have HM : Hid (∀ b, (l.all fun e => decide (e.s.size ≤ 200)) = b → mayEn l = b) := Lib.hid (fun b h => by unfold mayEn; rw [hri, h]; simp)
    clear R hri
    have hs0 : (sz : Int) ≤ 1000000 := by omega
    go_enter Try.func35, Try.ntmps35
    go_wp2_with fail
    refine HR.out.mono ?_
    rintro e w1 ⟨rfl, hb1⟩
    go_wp2_with fail
    go_loop [11] (fun i => ∃ k : Nat, k ≤ n ∧ i = .int .i64 k ∧ ((l.take k).all fun e => decide (e.s.size ≤ 200)) = true) (fun i => n - (intOf i).toNat)
    case atStart => exact ⟨0, Nat.zero_le _, rfl, rfl⟩
    case round =>
      obtain ⟨k, hk, rfl, ha⟩ := hrel
      have Ha := Lib.hid ha; clear ha
      have q0 : (0 : Int) ≤ (k : Int) := by omega
      by_cases hlt : k < n
      · have q1 : (k : Int) < (n : Int) := by omega
        obtain ⟨ad, v, rfl, hab, hv, d0, d1, d2⟩ := (hr.below hb1).ent hlt
        have Hv := Lib.hid hv; clear hv
        obtain ⟨s, p, q⟩ := v
        simp only at d0 d1 d2
        by_cases h2 : s.size ≤ 200
        · have g2 : (s.size : Int) ≤ 200 := by omega
          have HA : Hid (((l.take (k + 1)).all fun e => decide (e.s.size ≤ 200)) = true) := Lib.hid (by rw [List.take_add_one, Hv.out, List.all_append, Ha.out]; simp [h2])
          go_wp2
          go_round
          case rel => exact ⟨k + 1, by omega, by go_num, HA.out⟩
          case measure => simp [intOf]; omega
        · have g2 : (200 : Int) < (s.size : Int) := by omega
          have HF : Hid (mayN l sz = 1) := Lib.hid (by
            have : (l.all fun e => decide (e.s.size ≤ 200)) = false := by
              rw [Bool.eq_false_iff]
              intro h
              rw [List.all_eq_true] at h
              have := h _ (List.mem_of_getElem? Hv.out)
              simp only [decide_eq_true_iff] at this
              exact h2 this
            unfold mayN; rw [HM.out _ this]; rfl)
          go_wp2
          go_ret
          exact ⟨by rw [HF.out]; rfl, hb1⟩
      · obtain rfl : k = n := by omega
        have hT : l.take k = l := List.take_of_length_le (by rw [Hl.out]; exact Nat.le_refl _)
        by_cases h5 : 512 < sz
        · have g5 : (512 : Int) < (sz : Int) := by omega
          have HF : Hid (mayN l sz = 7) := Lib.hid (by have := Ha.out; rw [hT] at this; unfold mayN; rw [HM.out _ this]; simp [h5])
          clear hT
          go_wp2
          go_ret
          exact ⟨by rw [HF.out]; rfl, hb1⟩
        · have g5 : (sz : Int) ≤ 512 := by omega
          have HF : Hid (mayN l sz = 0) := Lib.hid (by have := Ha.out; rw [hT] at this; unfold mayN; rw [HM.out _ this]; simp [h5])
          clear hT
          go_wp2
          go_ret
          exact ⟨by rw [HF.out]; rfl, hb1⟩
end Go.Proofs.Ytgdipljaddodhaa
