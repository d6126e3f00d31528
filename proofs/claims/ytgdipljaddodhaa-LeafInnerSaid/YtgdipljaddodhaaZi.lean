/-
  Inner pages as bytes: contract of the reference's Inner.
-/
import Derived.Test.YtgdipljaddodhaaZc
import Derived.Test.YtgdipljaddodhaaZh
set_option linter.unusedSimpArgs false
set_option linter.unusedVariables false
namespace Go.Proofs.Ytgdipljaddodhaa
open Go.RowKit

theorem size12 (l : List En) : sizE 12 12 l = 12 + sumE l + 4 * l.length := sizE_sum 4 12 l
set_option maxHeartbeats 4000000 in
theorem rinner_no1 (A0 : Option Addr) (m c0 : Nat) (A : Option Addr) (n c : Nat) (w : World) (hn : n ≤ 1000000) (hm1 : m ≤ 1000000) (h : m ≠ n + 1 ∨ n = 0) :
    Calls Try.prog 22 #[.slice A0 m c0, .slice A n c] w (RetB w (.tuple #[.string ⟨#[]⟩, .int .i64 1])) := by
  have hnI : (n : Int) ≤ 1000000 := by omega
  have hmI : (m : Int) ≤ 1000000 := by omega
  by_cases h2 : n = 0
  · have f1 : ((n : Int) == 0) = true := by simp; omega
    have f2 : (n == 0) = true := by simp; omega
    clear h h2
    go_enter Try.func22, Try.ntmps22
    go_wp2
    go_ret2
    exact ⟨rfl, Below.refl _ _⟩
  · have h1 : m ≠ n + 1 := by rcases h with h | h; exact h; exact absurd h h2
    have e1 : ((m : Int) != (n : Int) + 1) = true := by simp; omega
    have e2 : ((m : Int) == (n : Int) + 1) = false := by simp; omega
    have f1 : ((n : Int) == 0) = false := by simp; omega
    have f2 : (n == 0) = false := by simp; omega
    clear h h1 h2
    go_enter Try.func22, Try.ntmps22
    go_wp2
    go_ret2
    exact ⟨rfl, Below.refl _ _⟩
set_option maxHeartbeats 4000000 in
theorem rinner_no2 (q : Nat) (A0 : Option Addr) (m c0 : Nat) (A : Option Addr) (n c : Nat) (l : List En) (w : World) (hr : Reads w w.heap.size 3 A n (vE l)) (hs : sumE l ≤ 72000) (h1 : m = n + 1) (h2 : n ≠ 0) (hq : mayN l (12 + sumE l + 4 * n) = q) (hq0 : q ≠ 0) :
    Calls Try.prog 22 #[.slice A0 m c0, .slice A n c] w (RetB w (.tuple #[.string ⟨#[]⟩, .int .i64 q])) := by
  have hl : l.length = n := by have := hr.1; rw [vE_len] at this; omega
  have hn : n ≤ 9000 := by have := sumE_eq l; omega
  have hnI : (n : Int) ≤ 9000 := by omega
  have S := rsize_any 12 12 A n c l w hr (by omega) (by omega) (by rw [size12]; omega)
  have M := rmay_any (12 + sumE l + 4 * n) A n c l w hr (by omega) (by omega)
  rw [hq] at M
  rw [size12, hl] at S
  have HS := Lib.hid S
  have HM := Lib.hid M
  have e1 : ((m : Int) != (n : Int) + 1) = false := by simp; omega
  have e2 : ((m : Int) == (n : Int) + 1) = true := by simp; omega
  have f1 : ((n : Int) == 0) = false := by simp; omega
  have f2 : (n == 0) = false := by simp; omega
  have hb1 : (((q : Nat) : Int) == 0) = false := by simp; omega
  have hb2 : (((q : Nat) : Int) != 0) = true := by simp; omega
  have hb3 : (q == 0) = false := by simp; omega
  have hb4 : (q != 0) = true := by simp; omega
  clear S M hq hr hs hq0 h1 h2 hl
  go_enter Try.func22, Try.ntmps22
  go_wp2_with fail
  refine HS.out.mono ?_
  rintro e w1 ⟨rfl, rfl⟩
  go_wp2_with fail
  refine HM.out.mono ?_
  rintro e w1 ⟨rfl, hb1⟩
  go_wp2
  go_ret2
  exact ⟨rfl, hb1⟩

set_option maxRecDepth 100000 in
set_option maxHeartbeats 4000000 in
theorem rinner_ok (A0 : Option Addr) (c0 : Nat) (A : Option Addr) (n c : Nat) (l : List En) (ch0 : Nat) (cs : List Nat) (w : World) (hr : Reads w w.heap.size 3 A n (vE l)) (hr0 : Reads w w.heap.size 1 A0 (n + 1) (vN (ch0 :: cs))) (hok : ∀ e ∈ l, e.ok) (hch : ∀ x ∈ ch0 :: cs, x < 4294967296) (h2 : n ≠ 0) (hm : mayEn l = true) (hf : sumE l + 4 * n ≤ 500) :
    Calls Try.prog 22 #[.slice A0 (n + 1) c0, .slice A n c] w (RetB w (.tuple #[.string (str (innL ch0 (l.zip cs) n)), .int .i64 0])) := by
  have hl : l.length = n := by have := hr.1; rw [vE_len] at this; omega
  have hcs : cs.length = n := by have := hr0.num_len; simpa using this
  have hnn : n ≤ 63 := by have := sumE_eq l; omega
  have hnI : (n : Int) ≤ 63 := by omega
  have hn0 : 0 < n := by omega
  have S := rsize_any 12 12 A n c l w hr (by omega) (by omega) (by rw [size12]; omega)
  have M := rmay_any (12 + sumE l + 4 * n) A n c l w hr (by omega) (by omega)
  have hm0 : mayN l (12 + sumE l + 4 * n) = 0 := by unfold mayN; rw [hm, if_pos rfl, if_neg (by omega)]
  rw [hm0] at M
  rw [size12, hl] at S
  have HS := Lib.hid S
  have HM := Lib.hid M
  have e1 : (((n + 1 : Nat) : Int) != (n : Int) + 1) = false := by simp
  have e2 : (((n + 1 : Nat) : Int) == (n : Int) + 1) = true := by simp
  have f1 : ((n : Int) == 0) = false := by simp; omega
  have f2 : (n == 0) = false := by simp; omega
  have hzl : (l.zip cs).length = n := by rw [List.length_zip]; omega
  have hbl : (inB (l.zip cs)).length = sumE l + 4 * n := by rw [inB_len, zip_fst (by omega), hzl]
  have PG := fun W => rpage_any 3 3 rfl n 0 (by omega) (by omega) (be 4 ch0 ++ inB (l.zip cs)) (by rw [List.length_append, be_len, hbl]; omega) W
  have hlp : ((headL 3 n 0).take 8 ++ (be 4 ch0 ++ inB (l.zip cs))) ++ List.replicate (512 - (8 + (be 4 ch0 ++ inB (l.zip cs)).length)) 0 = innL ch0 (l.zip cs) n := by
    unfold innL
    rw [zip_fst (by omega), hzl, List.length_append, be_len, hbl]
    simp only [List.append_assoc]
    congr 5
    omega
  rw [hlp] at PG
  have HP := Lib.hid PG
  have cn : IntKind.u16.wrap (n : Int) = (n : Int) := by rw [IntKind.wrap_u16]; omega
  obtain ⟨ad0, x0, hA0, hab0, hx0, hc0⟩ := hr0.num (k := 0) (by omega)
  have hx0' : ch0 = x0 := by simpa using hx0
  subst hx0'
  have hch0 : ch0 < 4294967296 := hch ch0 (by simp)
  have N0 : Hid (∀ W, Calls Try.prog 43 #[.int .u64 (ch0 : Nat), .int .i64 4] W (RetB W (.string (str (be 4 ch0))))) := Lib.hid fun W => dnum_any ch0 4 (by omega) (by omega) W
  have w0 : IntKind.u64.wrap (ch0 : Int) = (ch0 : Int) := by rw [IntKind.wrap_u64]; omega
  have hcN : Hid (∀ k, k < n → ∃ v x, l[k]? = some v ∧ cs[k]? = some x ∧ x < 4294967296) := Lib.hid fun k hk => by
    have a1 : l[k]? = some (l[k]'(by omega)) := List.getElem?_eq_getElem (by omega)
    have a2 : cs[k]? = some (cs[k]'(by omega)) := List.getElem?_eq_getElem (by omega)
    exact ⟨_, _, a1, a2, hch _ (List.mem_cons_of_mem _ (List.mem_of_getElem? a2))⟩
  have hmo := Lib.hid (sumZ_mono (l.zip cs))
  have Hzl := Lib.hid hzl
  have Hbl := Lib.hid hbl
  have hch1 : (ch0 : Int) ≤ 4294967295 := by omega
  clear S M hm hm0 hl hlp PG hch hx0 hch0 hzl hbl
  have hr0' := hr0
  subst hA0
  go_enter Try.func22, Try.ntmps22
  go_wp2_with fail
  refine HS.out.mono ?_
  rintro e w1 ⟨rfl, rfl⟩
  go_wp2_with fail
  refine HM.out.mono ?_
  rintro e w1 ⟨rfl, hb1⟩
  have cz : w1.cell? ad0 = some (.int .u32 (ch0 : Int)) := by
    rw [hb1.cell (p := ad0) hab0]
    simpa [Addr.add] using hc0
  clear hc0
  go_wp2_with fail
  refine (N0.out _).mono ?_
  rintro e w2 ⟨rfl, hb2⟩
  have hw2 : Below w.heap.size w w2 := bto0 hb1 hb2
  clear cz hb1 hb2 w0 hch1
  go_wp2_with fail
  go_loopw [7, 34] (fun sv iv wr => ∃ k : Nat, k ≤ n ∧ iv = .int .i64 k ∧ sv = .string (str (be 4 ch0 ++ inB ((l.zip cs).take k))) ∧ Below w.heap.size w wr) (fun _ iv _ => n - (intOf iv).toNat)
  case atStart => exact ⟨0, by omega, rfl, by simp [inB], hw2⟩
  case round =>
    clear hw2
    obtain ⟨k, hk, rfl, rfl, hb⟩ := hrel
    have r0 : (0 : Int) ≤ (k : Int) := by omega
    by_cases hlt : k < n
    · have r1 : (k : Int) < (n : Int) := by omega
      obtain ⟨v, x, hv, hx, hxb⟩ := hcN.out k hlt
      have hp := zip_at hv hx
      obtain ⟨ad, v', rfl, hab, hv', d0, d1, d2⟩ := (hr.below hb).ent hlt
      rw [hv] at hv'
      injection hv' with hv'
      subst hv'
      obtain ⟨ad1, x1, he1, hab1, hx1, cx⟩ := (hr0'.below hb).num (k := k + 1) (by omega)
      injection he1 with he1
      subst he1
      rw [List.getElem?_cons_succ, hx] at hx1
      injection hx1 with hx1
      subst hx1
      have hvok := hok v (List.mem_of_getElem? hv)
      have hfl := inB_take hp
      have hvs : v.s.size ≤ 504 := by
        have h1 := sumE_take hv
        have h2 := sumE_mono l (k + 1)
        omega
      have PE := Lib.hid fun W => rentry_any v hvok (by omega) W
      have PN : Hid (∀ W, Calls Try.prog 43 #[.int .u64 (x : Nat), .int .i64 4] W (RetB W (.string (str (be 4 x))))) := Lib.hid fun W => dnum_any x 4 (by omega) (by omega) W
      have wx : IntKind.u64.wrap (x : Int) = (x : Int) := by rw [IntKind.wrap_u64]; omega
      have hXl : (str (be 4 ch0 ++ inB ((l.zip cs).take k))).size ≤ 600 := by
        have h1 := hmo.out k
        have h2 := Hbl.out
        rw [str_size, List.length_append, be_len]
        omega
      have hYl : (str (enL v)).size ≤ 600 := by rw [str_size, enL_len]; omega
      have hZl : (str (be 4 x)).size = 4 := by rw [str_size, be_len]
      have hcat : Hid (str (be 4 ch0 ++ inB ((l.zip cs).take (k + 1))) = str (be 4 ch0 ++ inB ((l.zip cs).take k)) ++ str (enL v) ++ str (be 4 x)) := Lib.hid (by
        rw [hfl, str_append, str_append]
        unfold inP
        simp only [List.append_assoc])
      obtain ⟨X, hX⟩ : ∃ X, str (be 4 ch0 ++ inB ((l.zip cs).take k)) = X := ⟨_, rfl⟩
      obtain ⟨Y, hY⟩ : ∃ Y, str (enL v) = Y := ⟨_, rfl⟩
      obtain ⟨Z, hZ⟩ : ∃ Z, str (be 4 x) = Z := ⟨_, rfl⟩
      rw [hX] at hXl hcat ⊢
      rw [hY] at hYl hcat PE
      rw [hZ] at hZl hcat PN
      have z1 : ¬ 9223372036854775807 < X.size + Y.size := by omega
      have z2 : ¬ 9223372036854775807 < X.size + Y.size + Z.size := by omega
      have z2' : ¬ 9223372036854775807 < (X ++ Y).size + Z.size := by rw [ByteArray.size_append]; omega
      clear hX hY hZ hXl hYl hZl hv hx hp hvok hfl hvs hxb
      have hwr1 : IntKind.i64.wrap ((k : Int) + 1) = (k : Int) + 1 := IntWalk.i64_in _ (by omega)
      have hwr0 : (0 : Int) ≤ (k : Int) + 1 := by omega
      have hwr2 : (k : Int) + 1 < (n : Int) + 1 := by omega
      have hwr3 : k + 1 < n + 1 := by omega
      obtain ⟨s, p, q⟩ := v
      unfold En.agg at PE
      simp only at d0 d1 d2 PE
      have cx2 : wr.cell? ⟨ad0.block, ad0.off + (k + 1), none⟩ = some (.int .u32 (x : Int)) := by
        rw [← cx]; congr 1
      have hS : Hid (∀ W, Below wr.heap.size wr W → W.cell? (ad.add (k * 3)) = some (.string s) ∧ W.cell? ⟨(ad.add (k * 3)).block, (ad.add (k * 3)).off + 1, none⟩ = some (.int .u32 p) ∧ W.cell? ⟨(ad.add (k * 3)).block, (ad.add (k * 3)).off + 2, none⟩ = some (.int .u16 q) ∧ W.cell? ⟨ad0.block, ad0.off + (k + 1), none⟩ = some (.int .u32 (x : Int)) ∧ W.cell? (ad0.add (k + 1)) = some (.int .u32 (x : Int)) ∧ Below wr.heap.size wr W) := by
        refine Lib.hid fun W hW => ⟨(hW.cell ?_).trans d0, (hW.cell ?_).trans d1, (hW.cell ?_).trans d2, (hW.cell ?_).trans cx2, (hW.cell ?_).trans cx, hW⟩
        all_goals (have := hb.size; simp only [block_of_add]; omega)
      go_wp2_with fail
      go_region_held3 (fun W => W.cell? (ad.add (k * 3)) = some (.string s) ∧ W.cell? ⟨(ad.add (k * 3)).block, (ad.add (k * 3)).off + 1, none⟩ = some (.int .u32 p) ∧ W.cell? ⟨(ad.add (k * 3)).block, (ad.add (k * 3)).off + 2, none⟩ = some (.int .u16 q) ∧ W.cell? ⟨ad0.block, ad0.off + (k + 1), none⟩ = some (.int .u32 (x : Int)) ∧ W.cell? (ad0.add (k + 1)) = some (.int .u32 (x : Int)) ∧ Below wr.heap.size wr W)
        (first | exact hS.out _ (by (with_reducible repeat (first | exact Below.refl _ _ | exact hb2 | exact hb1 | refine bto0 ?_ hb2 | refine bto0 ?_ hb1 | refine bdr ?_ _ | refine Below.drew ?_ | refine ball ?_ _))) | assumption)
        (first
          | (go_at_call 36; (with_reducible refine (PE.out _).mono ?_); rintro e w1 ⟨rfl, hb1⟩)
          | (go_at_call 43; (with_reducible refine (PN.out _).mono ?_); rintro e w2 ⟨rfl, hb2⟩))
      have hbb : Below wr.heap.size wr w2 := by (with_reducible repeat (first | exact Below.refl _ _ | exact hb2 | exact hb1 | refine bto0 ?_ hb2 | refine bto0 ?_ hb1 | refine bdr ?_ _ | refine Below.drew ?_ | refine ball ?_ _))
      go_wp2
      go_roundw
      case rel => exact ⟨k + 1, by omega, by go_num, by rw [hcat.out], by first | exact bto0 hb hbb | exact bdr (bto0 hb hbb) _⟩
      case measure => simp [intOf]; omega
    · obtain rfl : k = n := by omega
      have hT : (l.zip cs).take k = l.zip cs := List.take_of_length_le (by rw [Hzl.out]; exact Nat.le_refl _)
      rw [hT]
      clear hT
      go_wp2_with fail
      refine (HP.out _).mono ?_
      rintro e w4 ⟨rfl, hb4⟩
      go_wp2
      go_ret2
      exact ⟨rfl, bto0 hb hb4⟩
end Go.Proofs.Ytgdipljaddodhaa
