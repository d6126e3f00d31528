
/-
  Show by the tables alone; a line of names.
-/
import Derived.Test.YtblpflobpffjnaaDoorWm
set_option linter.unusedSimpArgs false
set_option linter.unusedVariables false
namespace Go.Proofs.YtblpflobpffjnaaDoor
open Go.RowKit

/-- What Show looks up. -/
structure VM (w : World) : Prop where
  m : MaxC w
  t : VT w
theorem VM.below0 {w w' : World} (h : VM w) (hb : Below w.heap.size w w') : VM w' := ⟨h.m.below0 hb, h.t.below0 hb⟩
theorem VT.fmt (i : Int) (h0 : -9223372036854775808 ≤ i) (h1 : i ≤ 9223372036854775807) (w : World) (hv : VT w) :
    Calls Tryd.prog 44 #[.int .i64 i, .int .i64 10] w (RetB w (.string ⟨(Lib.itoa i).toArray⟩)) := by
  refine (Tryd.strconv_FormatInt_10 i h0 h1 w hv).mono fun e w' ⟨he, k, os, hw⟩ => ⟨he, ?_⟩
  subst hw
  exact ⟨rfl, rfl, rfl, by show w.heap.size ≤ (w.heap ++ os).size; simp, fun i hi => by show (w.heap ++ os)[i]? = _; rw [Array.getElem?_append_left hi]⟩
set_option maxHeartbeats 1000000 in
theorem show30_any (v : Vl) (w : World) (hv : VM w) (hi0 : -9223372036854775808 ≤ v.i) (hi1 : v.i ≤ 9223372036854775807) (hs : v.s.size ≤ 10000) :
    Calls Tryd.prog 27 #[v.agg] w (RetB w (.string (str (showL v)))) := by
  rw [← show_str]
  by_cases hk : v.k = 1
  · obtain ⟨k, i, s⟩ := v
    simp only at hk hi0 hi1
    subst hk
    have e : showV ⟨1, i, s⟩ = ⟨(Lib.itoa i).toArray⟩ := rfl
    rw [e]
    have HD := Lib.hid fun W h => VT.fmt i hi0 hi1 W h
    generalize (⟨(Lib.itoa i).toArray⟩ : ByteArray) = t at *
    have HV := Lib.hid (fun o => hv.t.below0 ((Below.refl _ w).alloc (Nat.le_refl _) o))
    clear e hi0 hi1 hv
    unfold Vl.agg
    simp only
    go_enter Tryd.func27, Tryd.ntmps27
    go_wp2_with fail
    refine (HD.out _ (HV.out _)).mono ?_
    rintro e w1 ⟨rfl, hb1⟩
    go_wp2
    go_ret
    exact ⟨rfl, bto0 (ball (Below.refl _ _) _) hb1⟩
  · have e : showV v = showT v := by unfold showV; rw [if_neg hk]
    rw [e]
    exact show_x v w hv.m hs hk

def nameL (s : List UInt8) : List UInt8 := if s = [] then [45] else s
theorem nameL_len (s : List UInt8) : (nameL s).length ≤ s.length + 1 := by
  unfold nameL
  split
  · simp
  · omega
theorem bname_any (s : List UInt8) (w : World) : Calls Tryd.prog 25 #[.string (str s)] w fun e w' => e = .returned (.string (str (nameL s))) ∧ w = w' := by
  unfold nameL
  by_cases h : s = []
  · subst h
    have hb : ((str []).toList == []) = true := by rw [str_toList]; rfl
    have e : (str [45]) = ⟨#[45]⟩ := rfl
    rw [if_pos rfl, e]
    generalize str [] = T at *
    clear e
    go_enter Tryd.func25, Tryd.ntmps25
    go_wp2
    go_ret
    exact ⟨rfl, rfl⟩
  · have hb : ((str s).toList == []) = false := by rw [str_toList]; simpa using h
    rw [if_neg h]
    generalize str s = T at *
    go_enter Tryd.func25, Tryd.ntmps25
    go_wp2
    go_ret
    exact ⟨rfl, rfl⟩
/-- One more of a line. -/
theorem joinB_next {α : Type} (f : α → List UInt8) {l : List α} {k : Nat} {x : α} (h : l[k]? = some x) : joinB ((l.take (k + 1)).map f) = if 0 < k then joinB ((l.take k).map f) ++ [32, 124, 32] ++ f x else f x := by
  have hl := (List.getElem?_eq_some_iff.1 h).1
  rw [map_take_succ f l k x h]
  by_cases h0 : 0 < k
  · rw [if_pos h0, joinB_snoc _ (by intro e; have := congrArg List.length e; rw [List.length_map, List.length_take] at this; have h2 : ([] : List (List UInt8)).length = 0 := rfl; omega)]
    simp
  · have : k = 0 := by omega
    subst this
    rw [if_neg h0]
    rfl
theorem joinB_take {α : Type} (f : α → List UInt8) (M : Nat) {l : List α} (k : Nat) (h : ∀ x ∈ l, (f x).length ≤ M) : (joinB ((l.take k).map f)).length ≤ l.length * (M + 3) := by
  refine Nat.le_trans (joinB_bound M _ fun x hx => ?_) (Nat.mul_le_mul_right _ ?_)
  · obtain ⟨y, hy, rfl⟩ := List.mem_map.1 hx
    exact h y (List.mem_of_mem_take hy)
  · rw [List.length_map, List.length_take]
    exact Nat.min_le_right _ _
theorem joinB_zero {α : Type} (f : α → List UInt8) (l : List α) {k : Nat} (h : ¬ 0 < k) : joinB ((l.take k).map f) = [] := by
  have : k = 0 := by omega
  subst this
  rfl

set_option maxRecDepth 100000 in
set_option maxHeartbeats 2000000 in
theorem lineS_any (b : Nat) (L : List UInt8) (A : Option Addr) (n c B : Nat) (l : List (List UInt8)) (w : World) (hd : Bd30 w b L) (HR : ∀ W, Below b w W → Reads W B 1 A n (vStr l)) (hn : n ≤ 9000) (hl : ∀ x ∈ l, x.length ≤ 9000) (hL : L.length ≤ 1000) :
    Calls Tryd.prog 24 #[.pointer (some ⟨b, 0, none⟩), .slice A n c, .func (.func 25) #[] #[]] w fun e w' => (∃ v, e = .returned v) ∧ Bd30 w' b (L ++ joinB (l.map nameL) ++ [10]) ∧ Below b w w' := by
  have hln : l.length = n := by have := (HR w (Below.refl _ _)).1; rw [vStr_len] at this; omega
  have hMM : ∀ x ∈ l, (nameL x).length ≤ 9001 := fun x hx => by have := nameL_len x; have := hl x hx; omega
  have HM := Lib.hid hMM
  have HRR := Lib.hid HR
  have HLN := Lib.hid hln
  have HLL := Lib.hid hL
  have nI : (n : Int) ≤ 9000 := by omega
  clear HR hln hL hMM hl
  go_enter Tryd.func24, Tryd.ntmps24
  go_wp2
  go_loopw [10] (fun kv wr => ∃ k : Nat, k ≤ n ∧ kv = .int .i64 k ∧ Bd30 wr b (L ++ joinB ((l.take k).map nameL)) ∧ Below b w wr) (fun kv _ => n - (intOf kv).toNat)
  case atStart => exact ⟨0, Nat.zero_le _, rfl, by rw [joinB_zero nameL l (Nat.lt_irrefl 0), List.append_nil]; exact hd, Below.refl _ _⟩
  case round =>
    clear hd
    obtain ⟨k, hk, rfl, hbd, hb⟩ := hrel
    have k0 : (0 : Int) ≤ (k : Int) := by omega
    have hsz : (joinB ((l.take k).map nameL)).length ≤ 9000 * 9004 := Nat.le_trans (joinB_take nameL 9001 k HM.out) (Nat.mul_le_mul_right _ (by rw [HLN.out]; exact hn))
    by_cases hlt : k < n
    · have k1 : (k : Int) < (n : Int) := by omega
      obtain ⟨ad, x, rfl, hab, hx, d0⟩ := (HRR.out wr hb).strs hlt
      have hnx := joinB_next nameL hx
      have hxl := HM.out x (List.mem_of_getElem? hx)
      have HN := Lib.hid fun W => bname_any x W
      generalize nameL x = X at *
      have HNX := Lib.hid hnx
      have HXL := Lib.hid hxl
      have HSZ := Lib.hid hsz
      clear hx hnx hxl hsz
      by_cases hp : 0 < k
      · have kp : (0 : Int) < (k : Int) := by omega
        have HW := Lib.hid (bws_str b (L ++ joinB ((l.take k).map nameL)) ⟨#[32, 124, 32]⟩ wr hbd (by have := HSZ.out; have := HLL.out; rw [List.length_append]; show _ + 3 ≤ _; omega))
        clear hbd
        go_wp2_with fail
        refine HW.out.mono ?_
        rintro e w1 ⟨⟨v, rfl⟩, hbd1, hb1, -⟩
        have hbw1 := hb.trans hb1
        have HW2 := Lib.hid (bws_any b _ X w1 hbd1 (by have := HSZ.out; have := HLL.out; have := HXL.out; rw [List.length_append, List.length_append]; show _ + 3 + _ ≤ _; omega))
        clear hb hb1 hbd1
        go_wp2_with (first
          | (go_at_call 25; (with_reducible refine (HN.out _).mono ?_); rintro e w' ⟨rfl, rfl⟩)
          | (go_at_call 19; (with_reducible refine HW2.out.mono ?_); rintro e w2 ⟨⟨v2, rfl⟩, hbd2, hb2, -⟩))
        go_roundw
        case rel => exact ⟨k + 1, by omega, by go_num, by rw [HNX.out, if_pos hp]; simpa using hbd2, hbw1.trans hb2⟩
        case measure => simp [intOf]; omega
      · have kp : (k : Int) ≤ 0 := by omega
        have e0 : joinB ((l.take k).map nameL) = [] := joinB_zero nameL l hp
        rw [e0, List.append_nil] at hbd
        have HW2 := Lib.hid (bws_any b _ X wr hbd (by have := HLL.out; have := HXL.out; omega))
        clear hbd e0
        go_wp2_with (first
          | (go_at_call 25; (with_reducible refine (HN.out _).mono ?_); rintro e w' ⟨rfl, rfl⟩)
          | (go_at_call 19; (with_reducible refine HW2.out.mono ?_); rintro e w2 ⟨⟨v2, rfl⟩, hbd2, hb2, -⟩))
        go_roundw
        case rel => exact ⟨k + 1, by omega, by go_num, by rw [HNX.out, if_neg hp]; exact hbd2, hb.trans hb2⟩
        case measure => simp [intOf]; omega
    · obtain rfl : k = n := by omega
      have hfin : l.take k = l := List.take_of_length_le (by rw [HLN.out]; omega)
      rw [hfin] at hbd hsz
      have HW := Lib.hid (bws_str b (L ++ joinB (l.map nameL)) ⟨#[10]⟩ wr hbd (by have := HLL.out; rw [List.length_append]; show _ + 1 ≤ _; omega))
      clear hbd hfin
      go_wp2_with fail
      refine HW.out.mono ?_
      rintro e w1 ⟨⟨v, rfl⟩, hbd1, hb1, -⟩
      go_wp2
      go_end0
      exact ⟨⟨_, rfl⟩, hbd1, hb.trans hb1⟩
end Go.Proofs.YtblpflobpffjnaaDoor
