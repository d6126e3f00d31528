/-
  Entries of a tree: contracts of Great, Rise, may, LeafSize; Same.
-/
import Derived.Test.YtgdipljaddodhaaYd
import Derived.Deep.RegionHeld3
set_option linter.unusedSimpArgs false
namespace Go.Proofs.Ytgdipljaddodhaa
open Go.RowKit

/-- More than is gone through? -/
def grE : Int → List En → Bool
  | _, [] => false
  | n, v :: r => if 9000 < n + (1 + min (v.s.size : Int) 9000) then true else grE (n + (1 + min (v.s.size : Int) 9000)) r
theorem grE_drop {l : List En} {k : Nat} {v : En} (h : l[k]? = some v) (n : Int) : grE n (l.drop k) = if 9000 < n + (1 + min (v.s.size : Int) 9000) then true else grE (n + (1 + min (v.s.size : Int) 9000)) (l.drop (k + 1)) := by
  have hk := lt_of_at h
  have : l[k] = v := by simpa [List.getElem?_eq_getElem hk] using h
  rw [List.drop_eq_getElem_cons hk, this]
  rfl
theorem ret_boolE {x y : Bool} (h : x = y) : Ending.returned (.bool x) = .returned (.bool y) := by rw [h]

set_option maxHeartbeats 1000000 in
theorem greatE_any (A : Option Addr) (n c : Nat) (l : List En) (w : World) (B : Nat) (hr : Reads w B 3 A n (vE l)) (hsz : ∀ v ∈ l, v.s.size ≤ maxLen) (hn : n ≤ maxLen) :
    Calls Try.prog 8 #[.slice A n c] w fun e w' => e = .returned (.bool (grE 0 l)) ∧ w = w' := by
  have hl : l.length = n := by have := hr.1; rw [vE_len] at this; omega
  have Hl := Lib.hid hl; clear hl
  have Hz := Lib.hid hsz; clear hsz
  unfold maxLen at hn
  go_enter Try.func8, Try.ntmps8
  go_wp2
  go_loop [3, 7] (fun m i => ∃ (k : Nat) (q : Int), k ≤ n ∧ i = .int .i64 k ∧ m = .int .i64 q ∧ 0 ≤ q ∧ q ≤ 9000 ∧ grE 0 l = grE q (l.drop k)) (fun _ i => n - (intOf i).toNat)
  case atStart => exact ⟨0, 0, Nat.zero_le _, rfl, rfl, by omega, by omega, rfl⟩
  case round =>
    obtain ⟨k, q, hk, rfl, rfl, hq0, hq1, he⟩ := hrel
    by_cases hlt : k < n
    · obtain ⟨ad, v, rfl, _, hv, hc2, _, _⟩ := hr.ent hlt
      have hvz := Hz.out v (List.mem_of_getElem? hv)
      have hd := grE_drop hv q
      unfold maxLen at hvz
      clear hv hr
      by_cases ht : 9000 < q + (1 + min (v.s.size : Int) 9000)
      · rw [if_pos ht] at hd
        have He := Lib.hid (he.trans hd)
        clear he hd
        by_cases h9 : 9000 < (v.s.size : Int)
        · go_wp2
          go_ret
          exact ⟨ret_boolE He.out.symm, rfl⟩
        · have ht' : 9000 < q + (1 + (v.s.size : Int)) := by omega
          go_wp2
          go_ret
          exact ⟨ret_boolE He.out.symm, rfl⟩
      · rw [if_neg ht] at hd
        have He := Lib.hid (he.trans hd)
        clear he hd
        go_wp2
        go_round
        case rel => exact ⟨k + 1, q + (1 + min (v.s.size : Int) 9000), by omega, by go_num, by first | rfl | exact val_int (by omega), by omega, by omega, He.out⟩
        case measure => simp [intOf]; omega
    · have hd : l.drop k = [] := List.drop_eq_nil_of_le (by rw [Hl.out]; omega)
      rw [hd] at he
      have he2 : grE 0 l = false := he
      have He := Lib.hid he2
      clear he hd he2
      go_wp2
      go_ret
      exact ⟨ret_boolE He.out.symm, rfl⟩

/-- Do entries rise? -/
def riseE : List En → Bool
  | a :: b :: r => decide (cmpE a b < 0) && riseE (b :: r)
  | _ => true
theorem rise_drop {l : List En} {k : Nat} {a b : En} (h : l[k]? = some a) (h2 : l[k + 1]? = some b) : riseE (l.drop k) = (decide (cmpE a b < 0) && riseE (l.drop (k + 1))) := by
  have hk := lt_of_at h
  have hk2 := lt_of_at h2
  have e1 : l[k] = a := by simpa [List.getElem?_eq_getElem hk] using h
  have e2 : l[k + 1] = b := by simpa [List.getElem?_eq_getElem hk2] using h2
  rw [List.drop_eq_getElem_cons hk, List.drop_eq_getElem_cons hk2, e1, e2]
  rfl
theorem rise_end {l : List En} {k : Nat} (h : l.length ≤ k + 1) : riseE (l.drop k) = true := by
  have : (l.drop k).length ≤ 1 := by rw [List.length_drop]; omega
  match hh : l.drop k, this with
  | [], _ => rfl
  | [_], _ => rfl

set_option maxRecDepth 100000 in
set_option maxHeartbeats 4000000 in
theorem riseE_any (A : Option Addr) (n c : Nat) (l : List En) (w : World) (hr : Reads w w.heap.size 3 A n (vE l)) (hn : n ≤ 1000000) :
    Calls Try.prog 14 #[.slice A n c] w (RetB w (.bool (riseE l))) := by
  have hl : l.length = n := by have := hr.1; rw [vE_len] at this; omega
  have Hl := Lib.hid hl; clear hl
  have hnI : (n : Int) ≤ 1000000 := by omega
  go_enter Try.func14, Try.ntmps14
  go_wp2
  go_loopw [7] (fun i wr => ∃ k : Nat, k ≤ n ∧ i = .int .i64 k ∧ riseE l = riseE (l.drop k) ∧ Below w.heap.size w wr) (fun i _ => n - (intOf i).toNat)
  case atStart => exact ⟨0, Nat.zero_le _, rfl, rfl, Below.refl _ _⟩
  case round =>
    obtain ⟨k, hk, rfl, he, hb⟩ := hrel
    have hbs := hb.size
    have q0 : (0 : Int) ≤ (k : Int) := by omega
    by_cases hlt : k + 1 < n
    · obtain ⟨ad, a, rfl, hab, ha, u0, u1, u2⟩ := (hr.below hb).ent (show k < n by omega)
      obtain ⟨ad2, b, he2, hab2, hbb, v0, v1, v2⟩ := (hr.below hb).ent hlt
      cases he2
      have hd := rise_drop ha hbb
      have HC := Lib.hid fun W => compareE_any a b W
      generalize cmpE a b = x at *
      have He := Lib.hid (he.trans hd)
      clear he hd ha hbb
      have q1 : (k : Int) < (n : Int) - 1 := by omega
      have q2 : (k : Int) < (n : Int) := by omega
      have q3 : (k : Int) + 1 < (n : Int) := by omega
      have q4 : k < n := by omega
      have q5 : (0 : Int) ≤ (k : Int) + 1 := by omega
      have q6 : k + 1 < n := hlt
      have hw1 : IntKind.i64.wrap ((k : Int) + 1) = (k : Int) + 1 := IntWalk.i64_in _ (by omega)
      obtain ⟨s, p, q⟩ := a
      obtain ⟨t, y, z⟩ := b
      unfold En.agg at HC
      simp only at *
      have hS : Hid (∀ W, Below wr.heap.size wr W → W.cell? (ad.add (k * 3)) = some (.string s) ∧ W.cell? ⟨(ad.add (k * 3)).block, (ad.add (k * 3)).off + 1, none⟩ = some (.int .u32 p) ∧ W.cell? ⟨(ad.add (k * 3)).block, (ad.add (k * 3)).off + 2, none⟩ = some (.int .u16 q) ∧ W.cell? (ad.add ((k + 1) * 3)) = some (.string t) ∧ W.cell? ⟨(ad.add ((k + 1) * 3)).block, (ad.add ((k + 1) * 3)).off + 1, none⟩ = some (.int .u32 y) ∧ W.cell? ⟨(ad.add ((k + 1) * 3)).block, (ad.add ((k + 1) * 3)).off + 2, none⟩ = some (.int .u16 z) ∧ Below wr.heap.size wr W) := by
        refine Lib.hid fun W hW => ⟨(hW.cell ?_).trans u0, (hW.cell ?_).trans u1, (hW.cell ?_).trans u2, (hW.cell ?_).trans v0, (hW.cell ?_).trans v1, (hW.cell ?_).trans v2, hW⟩
        all_goals (simp only [block_of_add]; omega)
      go_wp2_with fail
      go_region_held3 (fun W => W.cell? (ad.add (k * 3)) = some (.string s) ∧ W.cell? ⟨(ad.add (k * 3)).block, (ad.add (k * 3)).off + 1, none⟩ = some (.int .u32 p) ∧ W.cell? ⟨(ad.add (k * 3)).block, (ad.add (k * 3)).off + 2, none⟩ = some (.int .u16 q) ∧ W.cell? (ad.add ((k + 1) * 3)) = some (.string t) ∧ W.cell? ⟨(ad.add ((k + 1) * 3)).block, (ad.add ((k + 1) * 3)).off + 1, none⟩ = some (.int .u32 y) ∧ W.cell? ⟨(ad.add ((k + 1) * 3)).block, (ad.add ((k + 1) * 3)).off + 2, none⟩ = some (.int .u16 z) ∧ Below wr.heap.size wr W)
        (first | exact hS.out _ (by (with_reducible repeat (first | exact Below.refl _ _ | exact hb1 | refine bto0 ?_ hb1 | refine bdr ?_ _ | refine Below.drew ?_ | refine ball ?_ _))) | assumption)
        (first | (go_at_call 10; (with_reducible refine (HC.out _).mono ?_); rintro e w1 ⟨rfl, hb1⟩))
      have hbw1 : Below w.heap.size w w1 := bto0 hb (by (with_reducible repeat (first | exact Below.refl _ _ | exact hb1 | refine bto0 ?_ hb1 | refine bdr ?_ _ | refine Below.drew ?_ | refine ball ?_ _)))
      by_cases hx : x < 0
      · have He1 : Hid (riseE l = riseE (l.drop (k + 1))) := Lib.hid (by rw [He.out]; simp [hx])
        clear He
        go_wp2
        go_roundw
        case rel => exact ⟨k + 1, by omega, by go_num, He1.out, hbw1⟩
        case measure => simp [intOf]; omega
      · have He1 : Hid (riseE l = false) := Lib.hid (by rw [He.out]; simp [hx])
        have hx' : (0 : Int) ≤ x := by omega
        clear He
        go_wp2
        go_ret
        exact ⟨by rw [He1.out]; rfl, hbw1⟩
    · have hfin : Hid (riseE l = true) := Lib.hid (by rw [he]; exact rise_end (by rw [Hl.out]; omega))
      have q1 : (n : Int) - 1 ≤ (k : Int) := by omega
      clear he
      go_wp2
      go_ret
      exact ⟨by rw [hfin.out]; rfl, hb⟩
end Go.Proofs.Ytgdipljaddodhaa
