/-
  Several texts in one: Dv.
-/
import Derived.Test.YtjlpfhioacphkaaMsas
import Derived.Test.YtjlpfhioacphkaaMsaj
import Derived.BigGuardPart
/-
  The disk's Load.
-/
namespace Go.Proofs.Ytjlpfhioacphkaa
section
set_option linter.unusedSimpArgs false
set_option linter.unusedVariables false
open Go.RowKit

theorem new_bad (n : Int) (h : n < 1 ∨ 4096 < n) (w : World) : Calls Try.prog 6 #[.int .i64 n] w fun e w' => e = .returned (.tuple #[.pointer none, .int .i64 1]) ∧ w = w' := by
  by_cases h1 : n < 1
  · go_enter Try.func6, Try.ntmps6
    go_wp2
    go_ret2
    exact ⟨rfl, rfl⟩
  · have h2 : 4096 < n := by omega
    go_enter Try.func6, Try.ntmps6
    go_wp2
    go_ret2
    exact ⟨rfl, rfl⟩
theorem Dk.drew_ {w : World} {g gb gt n : Nat} {bs ts : Array Value} (h : Dk w g gb gt n bs ts) : Dk w.drew g gb gt n bs ts := ⟨h.d.drew, h.b.drew, h.t.drew, h.hb, h.ht⟩
theorem newMarks_eq (L : List UInt8) (n : Nat) (h : 1 ≤ n) : newMarks n = tV (marksP L n 0) := by
  obtain ⟨k, rfl⟩ : ∃ k, n = k + 1 := ⟨n - 1, by omega⟩
  unfold newMarks marksP tV tL
  have : madeCells #[.bool false] (k + 1) = ((List.replicate (k + 1) (Value.bool false))).toArray := by
    apply Array.ext
    · simp [size_madeCells]
    · intro j h1 h2
      simp [madeCells, Nat.mod_one]
  rw [this, List.setIfInBounds_toArray]
  congr 1
  simp [marksOf, List.replicate_succ]
theorem dload_bad (A : Option Addr) (m c : Nat) (h : m % 512 ≠ 0 ∨ m = 0) (h2 : m ≤ 1000000) (w : World) :
    Calls Try.prog 9 #[.slice A m c] w fun e w' => e = .returned (.tuple #[.pointer none, .int .i64 1]) ∧ w = w' := by
  by_cases h5 : m % 512 = 0
  · obtain rfl : m = 0 := by omega
    have N := Lib.hid (new_bad 0 (.inl (by omega)))
    clear h h2 h5
    go_enter Try.func9, Try.ntmps9
    go_wp2_with (go_at_call 6; refine (N.out _).mono ?_; rintro e w' ⟨rfl, rfl⟩)
    go_ret2
    exact ⟨rfl, rfl⟩
  · have e1 : ((m : Int) % 512 != 0) = true := by simp; omega
    go_enter Try.func9, Try.ntmps9
    go_wp2
    go_ret2
    exact ⟨rfl, rfl⟩
def RetDP (w : World) (n : Nat) (ps : List (List UInt8)) (T : List Bool) (e : Ending) (w' : World) : Prop :=
  ∃ g gb gt, e = .returned (.tuple #[.pointer (some ⟨g, 0, none⟩), .int .i64 0]) ∧ DP w' g gb gt n ps T ∧ w.heap.size ≤ g ∧ w.heap.size ≤ gb ∧ w.heap.size ≤ gt ∧ Below w.heap.size w w'

set_option maxRecDepth 100000 in
set_option maxHeartbeats 2000000 in
theorem dload_ok (A : Option Addr) (n c B : Nat) (L : List UInt8) (w : World) (hr : Reads w B 1 A (n * 512) (bL L)) (hB : B ≤ w.heap.size) (h1 : 1 ≤ n) (h2 : n ≤ 4096) :
    Calls Try.prog 9 #[.slice A (n * 512) c] w (RetDP w n (pagesOf L n) (marksOf L n)) := by
  have hL := hr.bytes_len
  obtain ⟨ad, _, rfl, hab, _⟩ := hr.byte (k := 0) (by omega)
  have N := Lib.hid fun W => new_any n h1 h2 W
  rw [newMarks_eq L n h1] at N
  go_enter Try.func9, Try.ntmps9
  go_wp2_with fail
  refine (N.out _).mono ?_
  rintro e w1 ⟨g, gb, gt, rfl, hd, k1, k2, k3, hb1⟩
  have hfit : 0 + (bL L).length ≤ (zeroBytes n).size := by rw [bL_len, hL]; simp [zeroBytes, size_madeCells]
  have hsrc : ∀ j v, (bL L)[j]? = some v → w1.cell? (ad.add j) = some v := by
    obtain ⟨ad', e, _, hc⟩ := (hr.below (hb1.mono hB)).2 (by omega)
    injection e with e
    subst e
    exact hc
  have hdb := hd.b
  have hd2 := hd.wrote (new := bV L) (by rw [bV_size, hL])
  have hb2 := below_setRow hb1 k2 (bV L)
  have hne : (splice (zeroBytes n).toList 0 (bL L)).toArray = bV L := by
    rw [splice_all _ _ (by rw [bL_len, hL]; simp [zeroBytes, size_madeCells])]
    rfl
  have c0 : w1.cell? ⟨g, 0, none⟩ = some (.slice (some ⟨gb, 0, none⟩) (n * 512) (n * 512)) := hd.d.cell 0
  have hinfo : (Try.prog.info? 5).map (·.size) = some 1 := by kernel_rfl
  have HI := Lib.hid hinfo; clear hinfo
  have HF := Lib.hid hfit; clear hfit
  have HSR := Lib.hid hsrc; clear hsrc
  have HN := Lib.hid hne; clear hne
  have HD := Lib.hid (And.intro hd2 hb2); clear hd2 hb2 hd
  have HL := Lib.hid hL; clear hL
  obtain ⟨W2, hW2⟩ : ∃ W2, w1.setRow gb (bV L) = W2 := ⟨_, rfl⟩
  rw [hW2] at HD
  have HW := Lib.hid hW2; clear hW2
  have c1 : W2.cell? ⟨g, 1, none⟩ = some (.slice (some ⟨gt, 0, none⟩) n n) := HD.out.1.d.cell 1
  go_wp2_with (refine wpList_copy_own rfl _ _ 27 27 rfl 5 Try.underlying27 HI.out gb 0 (n * 512) (n * 512) ad (n * 512) c rfl rfl (zeroBytes n) 5 hdb (bL L) (by rw [bL_len, HL.out]; simp) HSR.out HF.out (bL_one L) ?_; (show wpList _ _ _ _ _ (w1.setRow gb (splice (zeroBytes n).toList 0 (bL L)).toArray)); rw [HN.out, HW.out])
  have hrw := Lib.hid hr
  clear hr hdb N
  go_loopw [32] (fun v wr => ∃ k : Nat, v = .int .i64 k ∧ k ≤ n ∧ Dk wr g gb gt n (bV L) (tV (marksP L n k)) ∧ Below w.heap.size w wr) (fun v _ => n - (intOf v).toNat)
  case atStart => exact ⟨0, rfl, by omega, HD.out.1, HD.out.2⟩
  case round =>
    obtain ⟨k, rfl, hk, hD, hb⟩ := hrel
    have q0 : (0 : Int) ≤ (k : Int) := by omega
    have d1 : wr.cell? ⟨g, 1, none⟩ = some (.slice (some ⟨gt, 0, none⟩) n n) := hD.d.cell 1
    by_cases hlt : k < n
    · have q1 : (k : Int) < (n : Int) := by omega
      obtain ⟨b, hbk⟩ := marksP_at L n k hlt
      have d2 : wr.cell? ⟨gt, k, none⟩ = some (.bool b) := (hD.t.cell k).trans (tV_at hbk)
      have f2 := hD.t.frozen k
      obtain ⟨ad', x, e, _, hx, d3⟩ := (hrw.out.below (hb.mono hB)).byte (k := k * 512) (by omega)
      injection e with e
      subst e
      have HD2 := Lib.hid (And.intro hD hb)
      clear hD hb hbk
      by_cases hk0 : k = 0
      · have HM : Hid (mark L k = true) := by unfold mark Hid; simp [hk0]
        have hkb : ((k : Int) == 0) = true := by simp; omega
        clear hk0 hx d3
        go_wp2
        go_region
        go_wp2
        go_roundw
        case rel => exact ⟨k + 1, by go_num, by omega, by rw [← marksP_set L n k hlt, HM.out, ← tV_set]; exact (HD2.out.1.mark k _).drew_, (HD2.out.2.setCell (p := ⟨gt, k, none⟩) k3 _).drew⟩
        case measure => simp [intOf]; omega
      · have hkb : ((k : Int) == 0) = false := by simp; omega
        have HM : Hid (mark L k = !decide (x = 0)) := by
          unfold mark Hid
          rw [hx]
          simp [hk0]
        have hne : ((x.toNat : Int) != 0) = !decide (x = 0) := by
          by_cases h : x = 0
          · subst h; rfl
          · have : ¬ x.toNat = 0 := fun e => h (UInt8.toNat_inj.1 e)
            simp [h]; omega
        obtain ⟨mk, hmk⟩ : ∃ mk, (!decide (x = 0)) = mk := ⟨_, rfl⟩
        rw [hmk] at HM hne
        have g1 : (0 : Int) ≤ (k : Int) * 512 := by omega
        have g2 : (k : Int) * 512 < (n : Int) * 512 := by omega
        clear hk0 hx hmk
        go_wp2
        go_region
        go_wp2
        go_roundw
        case rel => exact ⟨k + 1, by go_num, by omega, by rw [← marksP_set L n k hlt, HM.out, ← tV_set]; exact (HD2.out.1.mark k _).drew_, (HD2.out.2.setCell (p := ⟨gt, k, none⟩) k3 _).drew⟩
        case measure => simp [intOf]; omega
    · obtain rfl : k = n := by omega
      go_wp2
      go_ret2
      rw [marksP_end L k h1] at hD
      have hfl := pagesOf_all L k HL.out
      exact ⟨g, gb, gt, rfl, ⟨by rw [hfl]; exact hD, pagesOf_full L k (by rw [HL.out]; exact Nat.le_refl _), pagesOf_len L k⟩, k1, k2, k3, hb⟩
end
end Go.Proofs.Ytjlpfhioacphkaa
