/-
  Keys as bytes: contract of the program's Put; the chapter's example.
-/
import Derived.Test.YtohaplmbgipbcaaDoorKb
import Derived.Test.YtohaplmbgipbcaaDoorAg
namespace Go.Proofs.YtohaplmbgipbcaaDoor
open Go.RowKit

theorem Own.conv {w : World} {base : Nat} {A : Option Addr} {n c : Nat} {l : List UInt8} (h : Own w base (.slice A n c) l) :
    (convert 40 9 (.slice A n c)).run Tryd.prog w = .ok (.string (str l)) w :=
  conv_reads h.reads.1 _ 5 _ Tryd.underlying40 Tryd.underlying5 Tryd.underlying9 c
def RetPut (w : World) (l : List Vl) (e : Ending) (w' : World) : Prop := e = .returned (.tuple #[.string (str (kS l)), .int .i64 (kE l)]) ∧ Below w.heap.size w w'
theorem all_take {l : List Vl} {k : Nat} {v : Vl} (h : l[k]? = some v) (ha : allMay (l.take k) = true) (hm : mayV v = true) : allMay (l.take (k + 1)) = true := by
  rw [List.take_add_one, h]; unfold allMay at *; rw [List.all_append]; simp [hm, ha]
theorem all_no {l : List Vl} {k : Nat} {v : Vl} (h : l[k]? = some v) (hm : mayV v = false) : allMay l = false := by
  unfold allMay
  rw [Bool.eq_false_iff]
  intro h'
  rw [List.all_eq_true] at h'
  have := h' v (List.mem_of_getElem? h)
  rw [hm] at this; cases this

set_option maxRecDepth 100000 in
set_option maxHeartbeats 2000000 in
theorem kput_any (A : Option Addr) (n c : Nat) (l : List Vl) (w : World) (hm : MaxC w) (hr : Reads w w.heap.size 3 A n (vV l)) (hok : ∀ v ∈ l, v.ok) (hg : grV 0 l = false) :
    Calls Tryd.prog 11 #[.slice A n c] w (RetPut w l) := by
  obtain ⟨g1, g2, g3⟩ := grV_bd hg
  have hl : l.length = n := by have := hr.1; rw [vV_len] at this; omega
  have hn : n ≤ 5000 := by omega
  have hnI : (n : Int) ≤ 5000 := by omega
  have Hl := Lib.hid hl; clear hl hg
  have HMx := Lib.hid fun (W : World) (hb : Below w.heap.size w W) => hm.below0 hb
  have hlt0 := hm.lt
  clear hm
  go_enter Tryd.func11, Tryd.ntmps11
  go_wp2
  go_loopw [4, 9] (fun bv iv wr => ∃ k : Nat, k ≤ n ∧ iv = .int .i64 k ∧ allMay (l.take k) = true ∧ Own wr w.heap.size bv (keyR (l.take k)) ∧ Below w.heap.size w wr) (fun _ iv _ => n - (intOf iv).toNat)
  case atStart => exact ⟨0, by omega, rfl, rfl, Own.nil _ _, Below.refl _ _⟩
  case round =>
    obtain ⟨k, hk, rfl, ha, hown, hb⟩ := hrel
    have Ha := Lib.hid ha; clear ha
    have q0 : (0 : Int) ≤ (k : Int) := by omega
    by_cases hlt : k < n
    · have q1 : (k : Int) < (n : Int) := by omega
      obtain ⟨ad, v, rfl, hab, hv, d0, d1, d2⟩ := (hr.below hb).val hlt
      have hvok := hok v (List.mem_of_getElem? hv)
      have hvsz := g2 v (List.mem_of_getElem? hv)
      have hft := key_take_len l k
      have M := fun W => may_any v hvok W
      have P := fun W bv hM hW hb' => put_any v hvok (by omega) bv (keyR (l.take k)) W w.heap.size hM hW hb' hlt0 (by omega)
      have HP := Lib.hid P; clear P
      have Hv := Lib.hid hv; clear hv hft hvsz hvok
      have hbs := hb.size
      by_cases hmv : mayV v = true
      · rw [hmv] at M
        have HM := Lib.hid hmv; clear hmv
        have MM := Lib.hid M; clear M
        obtain ⟨vk, vi, vs⟩ := v
        unfold Vl.agg at MM HP
        simp only at d0 d1 d2 MM HP
        go_wp2_with fail
        refine (MM.out _).mono ?_
        rintro e w1 ⟨rfl, hb1⟩
        have hz1 : wr.heap.size < w1.heap.size := by have := hb1.size; simp at this; omega
        obtain ⟨c0, c1, c2, f0, f1, f2⟩ := (At3.new wr vk vi vs 43).below hb1 (by simp)
        have hbw : Below w.heap.size w w1 := bto0 (ball hb _) hb1
        have own1 := (hown.alloc (.cells #[.int .u8 vk, .int .i64 vi, .string vs] 43)).below hb1
        go_wp2_with fail
        refine (HP.out _ _ (HMx.out _ hbw) own1 hbw.size).mono ?_
        rintro e w2 ⟨v2, rfl, own2, hk2⟩
        go_wp2
        go_roundw
        case rel => exact ⟨k + 1, by omega, by go_num, all_take Hv.out Ha.out HM.out, by rw [key_take Hv.out]; exact own2, hk2.below _ _ (Nat.le_refl _) hbw⟩
        case measure => simp [intOf]; omega
      · have hm' : mayV v = false := by simpa using hmv
        rw [hm'] at M
        have MM := Lib.hid M; clear M
        have hf := all_no Hv.out hm'
        have HF := Lib.hid hf; clear hf hmv hm' HP
        obtain ⟨vk, vi, vs⟩ := v
        unfold Vl.agg at MM
        simp only at d0 d1 d2 MM
        go_wp2_with fail
        refine (MM.out _).mono ?_
        rintro e w1 ⟨rfl, hb1⟩
        go_wp2
        go_ret2
        exact ⟨by unfold kE kS; rw [HF.out]; rfl, bto0 (ball hb _) hb1⟩
    · obtain rfl : k = n := by omega
      have hT : l.take k = l := List.take_of_length_le (by rw [Hl.out]; exact Nat.le_refl _)
      have hall : allMay l = true := by have := Ha.out; rwa [hT] at this
      have HA := Lib.hid hall; clear hall Ha
      rw [hT] at hown
      clear hT
      obtain ⟨A5, c5, rfl, hc5⟩ := hown.form
      have hcv := hown.conv
      have hfin : Hid (str (keyR l) = str (kS l) ∧ kE l = 0) := Lib.hid (by unfold kE kS; rw [HA.out]; exact ⟨rfl, rfl⟩)
      clear hown
      go_wp2
      go_ret2
      exact ⟨by rw [← hfin.out.1, hfin.out.2]; rfl, hb⟩
theorem kput_e {A : Option Addr} {n c : Nat} {l : List Vl} {w : World} {s : ByteArray} {e : Int} (hs : str (kS l) = s) (he : kE l = e) (h : Calls Tryd.prog 11 #[.slice A n c] w (RetPut w l)) :
    Calls Tryd.prog 11 #[.slice A n c] w (RetB w (.tuple #[.string s, .int .i64 e])) := by
  subst hs he
  exact h

set_option maxHeartbeats 1000000 in
theorem least_any (k : Int) (h0 : 0 ≤ k) (h1 : k ≤ 255) (w : World) : Calls Tryd.prog 21 #[.int .u8 k] w (RetB w (.string ⟨#[if 3 < k then 5 else UInt8.ofNat (1 + k).toNat]⟩)) := by
  by_cases h : 3 < k
  · rw [if_pos h]
    have hcv : ∀ o : World, (convert 40 9 (.slice (some ⟨o.heap.size, 0, none⟩) 1 1)).run Tryd.prog (o.alloc (.cells #[.int .u8 5] 5)) = .ok (.string ⟨#[5]⟩) (o.alloc (.cells #[.int .u8 5] 5)) := fun o =>
      conv_reads (l := [5]) (reads_new o #[.int .u8 5] 5 rfl rfl) _ 5 _ Tryd.underlying40 Tryd.underlying5 Tryd.underlying9 1
    go_enter Tryd.func21, Tryd.ntmps21
    go_wp2
    go_ret
    exact ⟨rfl, ball (Below.refl _ _) _⟩
  · rw [if_neg h]
    have h' : k ≤ 3 := by omega
    have hk : 1 + k = ((UInt8.ofNat (1 + k).toNat).toNat : Int) := by simp; omega
    have hcv : ∀ o : World, (convert 40 9 (.slice (some ⟨o.heap.size, 0, none⟩) 1 1)).run Tryd.prog (o.alloc (.cells #[.int .u8 (1 + k)] 5)) = .ok (.string ⟨#[UInt8.ofNat (1 + k).toNat]⟩) (o.alloc (.cells #[.int .u8 (1 + k)] 5)) := fun o =>
      conv_reads (l := [UInt8.ofNat (1 + k).toNat]) (reads_new o #[.int .u8 (1 + k)] 5 (by show [Value.int .u8 ((UInt8.ofNat (1 + k).toNat).toNat : Int)] = _; rw [← hk]) rfl) _ 5 _ Tryd.underlying40 Tryd.underlying5 Tryd.underlying9 1
    clear hk
    go_enter Tryd.func21, Tryd.ntmps21
    go_wp2
    go_ret
    exact ⟨rfl, ball (Below.refl _ _) _⟩
end Go.Proofs.YtohaplmbgipbcaaDoor
