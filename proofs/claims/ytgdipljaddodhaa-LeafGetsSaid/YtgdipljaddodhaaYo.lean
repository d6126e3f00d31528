/-
  Entries of a tree as bytes: contracts of begin, fill, PutLeaf.
-/
import Derived.Test.YtgdipljaddodhaaYn
set_option linter.unusedSimpArgs false
namespace Go.Proofs.Ytgdipljaddodhaa
open Go.RowKit

theorem Own.cutHead {w : World} {g m base : Nat} {L : List UInt8} (h : Blk w g 5 (bV L)) (hL : L.length = 512) (hm : m ≤ 512) (hb : base ≤ g) : Own w base (.slice (some ⟨g, 0, none⟩) m 512) (L.take m) := by
  have e : (L.take m).length = m := by rw [List.length_take]; omega
  unfold Own
  rw [e]
  refine ⟨by rw [bL_len, e]; omega, .inr ⟨g, 512, bV L, rfl, hb, h, hm, by decide, by rw [bV_size, hL], ?_⟩⟩
  rw [bV_toList, Nat.mul_one]
  simp [bL, List.map_take]
theorem headL_len (k : UInt8) (c n : Nat) : (headL k c n).length = 512 := headP_len k c n 4 (by omega)

def RetO (w : World) (l : List UInt8) (e : Ending) (w' : World) : Prop := ∃ v', e = .returned v' ∧ Own w' w.heap.size v' l ∧ Below w.heap.size w w'
theorem begin_any (k : UInt8) (x : Int) (hx : x = (k.toNat : Int)) (c n : Nat) (hc : c ≤ 60000) (hn : n < 4294967296) (w : World) :
    Calls Try.prog 32 #[.int .u8 x, .int .i64 c, .int .u32 n] w (RetO w ((headL k c n).take 8)) := by
  have H := Lib.hid fun W => dput_any k c n (by omega) hn W
  rw [← hx] at H
  have hcI : (c : Int) ≤ 60000 := by omega
  have hc0 : (0 : Int) ≤ (c : Int) := by omega
  clear hx hc hn
  go_enter Try.func32, Try.ntmps32
  go_wp2_with fail
  refine (H.out _).mono ?_
  rintro e w1 ⟨g, rfl, hB, hg, hb1⟩
  go_wp2
  go_ret
  exact ⟨_, rfl, Own.cutHead hB (headL_len _ _ _) (by omega) hg, hb1⟩
theorem fill_any (sv : Value) (l : List UInt8) (w : World) (base : Nat) (hown : Own w base sv l) (hb : base ≤ w.heap.size) (hlen : l.length ≤ 512) :
    Calls Try.prog 34 #[sv] w (RetOwn w base (l ++ List.replicate (512 - l.length) 0)) := by
  obtain ⟨A, c, rfl, hc⟩ := hown.form
  have q0 : (l.length : Int) ≤ 512 := by omega
  go_enter Try.func34, Try.ntmps34
  go_wp2_with (at_builtin; refine wpList_appZ rfl _ _ rfl base _ l (512 - l.length) _ rfl hown rfl (by omega) (by omega) hb ?_; intro v1 w1 own1 kp1)
  go_ret
  exact ⟨_, rfl, own1, kp1⟩

/-- A leaf page's bytes. -/
def leafL (next : Nat) (l : List En) : List UInt8 := ((headL 2 l.length next).take 8 ++ l.flatMap enL) ++ List.replicate (512 - (8 + sumE l)) 0
theorem putLeaf_no (next : Int) (A : Option Addr) (n c : Nat) (l : List En) (w : World) (hr : Reads w w.heap.size 3 A n (vE l)) (hn : n ≤ 1000000) (hm : mayEn l = false) :
    Calls Try.prog 12 #[.int .u32 next, .slice A n c] w (RetB w (.tuple #[.slice none 0 0, .int .i64 1])) := by
  have M := mayE_any A n c l w hr hn
  rw [hm] at M
  have HM := Lib.hid M; clear M hr hm hn
  go_enter Try.func12, Try.ntmps12
  go_wp2_with fail
  refine HM.out.mono ?_
  rintro e w1 ⟨rfl, hb1⟩
  go_wp2
  go_ret2
  exact ⟨rfl, hb1⟩
theorem putLeaf_full (next : Int) (A : Option Addr) (n c : Nat) (l : List En) (w : World) (hr : Reads w w.heap.size 3 A n (vE l)) (hn : n ≤ 1000000) (hm : mayEn l = true) (hs : sumE l ≤ 72000) (hf : 504 < sumE l) :
    Calls Try.prog 12 #[.int .u32 next, .slice A n c] w (RetB w (.tuple #[.slice none 0 0, .int .i64 7])) := by
  have M := mayE_any A n c l w hr hn
  have S := Lib.hid fun (W : World) (hb : Below w.heap.size w W) => leafSize_any A n c l W ((hr.below hb).more hb.size) hs
  rw [hm] at M
  have HM := Lib.hid M; clear M hr hm hn
  generalize sumE l = T at *
  have q0 : (512 : Int) < 8 + (T : Int) := by omega
  go_enter Try.func12, Try.ntmps12
  go_wp2_with fail
  refine HM.out.mono ?_
  rintro e w1 ⟨rfl, hb1⟩
  go_wp2_with fail
  refine (S.out _ (by (with_reducible repeat (first | exact Below.refl _ _ | exact hb1 | refine bto0 ?_ hb1 | refine bdr ?_ _ | refine Below.drew ?_ | refine ball ?_ _)))).mono ?_
  rintro e w2 ⟨rfl, hb2⟩
  go_wp2
  go_ret2
  exact ⟨rfl, by (with_reducible repeat (first | exact Below.refl _ _ | exact hb2 | exact hb1 | refine bto0 ?_ hb2 | refine bto0 ?_ hb1 | refine bdr ?_ _ | refine Below.drew ?_ | refine ball ?_ _))⟩

def RetLf (w : World) (l : List UInt8) (e : Ending) (w' : World) : Prop := ∃ v', e = .returned (.tuple #[v', .int .i64 0]) ∧ Own w' w.heap.size v' l ∧ Below w.heap.size w w'
set_option maxHeartbeats 2000000 in
theorem putLeaf_ok (next : Nat) (hnx : next < 4294967296) (A : Option Addr) (n c : Nat) (l : List En) (w : World) (hr : Reads w w.heap.size 3 A n (vE l)) (hok : ∀ e ∈ l, e.ok) (hm : mayEn l = true) (hf : sumE l ≤ 504) :
    Calls Try.prog 12 #[.int .u32 next, .slice A n c] w (RetLf w (leafL next l)) := by
  have hl : l.length = n := by have := hr.1; rw [vE_len] at this; omega
  have hnn : n ≤ 63 := by have := sumE_eq l; omega
  have hnI : (n : Int) ≤ 63 := by omega
  have M := mayE_any A n c l w hr (by omega)
  have S := Lib.hid fun (W : World) (hb : Below w.heap.size w W) => leafSize_any A n c l W ((hr.below hb).more hb.size) (by omega)
  rw [hm] at M
  have HM := Lib.hid M; clear M hm
  have BG := Lib.hid fun W => begin_any 2 2 rfl n next (by omega) hnx W
  have Hl := Lib.hid hl; clear hl
  have Hf := Lib.hid hf
  obtain ⟨T, hT⟩ : ∃ T, sumE l = T := ⟨_, rfl⟩
  rw [hT] at S hf
  have HT := Lib.hid hT; clear hT
  have q0 : 8 + (T : Int) ≤ 512 := by omega
  have h8 : ((headL 2 n next).take 8).length = 8 := by rw [List.length_take, headL_len]; rfl
  obtain ⟨H8, hH8⟩ : ∃ H8, (headL 2 n next).take 8 = H8 := ⟨_, rfl⟩
  rw [hH8] at BG h8
  have HH := Lib.hid hH8; clear hH8 hnx
  go_enter Try.func12, Try.ntmps12
  go_wp2_with fail
  refine HM.out.mono ?_
  rintro e w1 ⟨rfl, hb1⟩
  go_wp2_with fail
  refine (S.out _ (by (with_reducible repeat (first | exact Below.refl _ _ | exact hb1 | refine bto0 ?_ hb1 | refine bdr ?_ _ | refine Below.drew ?_ | refine ball ?_ _)))).mono ?_
  rintro e w2 ⟨rfl, hb2⟩
  go_wp2_with fail
  refine (BG.out _).mono ?_
  rintro e w3 ⟨v3, rfl, own3, hb3⟩
  have hw2 : Below w.heap.size w w2 := by (with_reducible repeat (first | exact Below.refl _ _ | exact hb2 | exact hb1 | refine bto0 ?_ hb2 | refine bto0 ?_ hb1 | refine bdr ?_ _ | refine Below.drew ?_ | refine ball ?_ _))
  have own3' := own3.less hw2.size
  have hw3 : Below w.heap.size w w3 := by (with_reducible repeat (first | exact Below.refl _ _ | exact hb3 | exact hb2 | exact hb1 | refine bto0 ?_ hb3 | refine bto0 ?_ hb2 | refine bto0 ?_ hb1 | refine bdr ?_ _ | refine Below.drew ?_ | refine ball ?_ _))
  clear hb1 hb2 hb3 own3 hw2
  go_wp2_with fail
  go_loopw [6, 21] (fun bv iv wr => ∃ k : Nat, k ≤ n ∧ iv = .int .i64 k ∧ Own wr w.heap.size bv (H8 ++ (l.take k).flatMap enL) ∧ Below w.heap.size w wr) (fun _ iv _ => n - (intOf iv).toNat)
  case atStart => exact ⟨0, by omega, rfl, by simpa using own3', hw3⟩
  case round =>
    obtain ⟨k, hk, rfl, hown, hb⟩ := hrel
    have r0 : (0 : Int) ≤ (k : Int) := by omega
    have hbs := hb.size
    have hlk : (H8 ++ (l.take k).flatMap enL).length ≤ 512 := by
      have h1 := sumE_mono l k
      have h2 := sumE_len (l.take k)
      have h3 := HT.out
      rw [List.length_append, h8]
      omega
    by_cases hlt : k < n
    · have r1 : (k : Int) < (n : Int) := by omega
      obtain ⟨ad, v, rfl, hab, hv, d0, d1, d2⟩ := (hr.below hb).ent hlt
      have hvok := hok v (List.mem_of_getElem? hv)
      have hvs : v.s.size ≤ 504 := by
        have h1 := sumE_take hv
        have h2 := sumE_mono l (k + 1)
        have h3 := HT.out
        omega
      have hfl : Hid ((l.take (k + 1)).flatMap enL = (l.take k).flatMap enL ++ enL v) := Lib.hid (by rw [List.take_add_one, hv]; simp)
      have own1 := hown.alloc (.cells #[.string v.s, .int .u32 v.p, .int .u16 v.q] 27)
      have hbs1 : w.heap.size ≤ (wr.alloc (.cells #[.string v.s, .int .u32 v.p, .int .u16 v.q] 27)).heap.size := by simp; omega
      have PE := Lib.hid (putEntry_any v hvok (by omega) u6 _ _ w.heap.size own1 hbs1 (by omega))
      clear hv hvok hvs own1
      obtain ⟨s, p, q⟩ := v
      unfold En.agg at PE
      simp only at d0 d1 d2 PE
      go_wp2_with fail
      refine PE.out.mono ?_
      rintro e w4 ⟨v4, rfl, own4, kp4⟩
      go_wp2
      go_roundw
      case rel => exact ⟨k + 1, by omega, by go_num, by rw [hfl.out, ← List.append_assoc]; exact own4, kp4.below _ _ (Nat.le_refl _) (ball hb _)⟩
      case measure => simp [intOf]; omega
    · obtain rfl : k = n := by omega
      have hT : l.take k = l := List.take_of_length_le (by rw [Hl.out]; exact Nat.le_refl _)
      rw [hT] at hown hlk
      have hfin : Hid (leafL next l = (H8 ++ l.flatMap enL) ++ List.replicate (512 - (H8 ++ l.flatMap enL).length) 0) := Lib.hid (by
        unfold leafL
        rw [Hl.out, HH.out, List.length_append, h8, sumE_len])
      have FI := Lib.hid (fill_any u6 _ _ w.heap.size hown hbs hlk)
      clear hT
      go_wp2_with fail
      refine FI.out.mono ?_
      rintro e w4 ⟨v4, rfl, own4, kp4⟩
      go_wp2
      go_ret2
      exact ⟨_, rfl, by rw [hfin.out]; exact own4, kp4.below _ _ (Nat.le_refl _) hb⟩
end Go.Proofs.Ytgdipljaddodhaa
