/-
  Slots of a heap page: a record, Get.
-/
import Derived.Test.YtcpbkaeilmabaaaSd
import Derived.Test.YtcpbkaeilmabaaaSp
import Derived.Deep.RegionLaw
namespace Go.Proofs.Ytcpbkaeilmabaaa
open Go.RowKit

section
variable {w : World} {A : Option Addr} {n c B : Nat} {l : List UInt8}
set_option maxRecDepth 100000 in
theorem record_any (a b : Nat) (hr : Reads w B 1 A n (bL l)) (hB : B ≤ w.heap.size) (hn : n ≤ 1000000) (hc : n ≤ c) (hab : a + b ≤ n) : Calls Try.prog 80 #[.slice A n c, .agg #[.int .i64 a, .int .i64 b]] w (RetCl w ((l.drop a).take b)) := by
  have hX := Blk.new w 136 #[.int .i64 a, .int .i64 b]
  have hb := ball (Below.refl w.heap.size w) (.cells #[.int .i64 a, .int .i64 b] 136)
  have hz : (w.alloc (.cells #[.int .i64 a, .int .i64 b] 136)).heap.size = w.heap.size + 1 := by simp
  go_enter Try.func80, Try.ntmps80
  go_wp2_with fail
  obtain ⟨WA, hW⟩ : ∃ W, (w.alloc (.cells #[.int .i64 a, .int .i64 b] 136)) = W := ⟨_, rfl⟩
  rw [hW] at hX hb hz ⊢
  clear hW
  have hzz : w.heap.size ≤ WA.heap.size := by omega
  have hrA := hr.below (hb.mono hB)
  obtain ⟨A', sl, hrd⟩ := cutb_mid (A := A) (n := n) (c := c) .i64 .i64 a (a + b) (a : Int) ((a : Int) + (b : Int)) rfl (by omega) (by omega) hab hc
  rw [Nat.add_sub_cancel_left] at sl hrd
  have EN := Lib.hid (end_any a b (by omega) (by omega))
  have CL := Lib.hid fun W (hW : Below WA.heap.size WA W) => clone_any (c := c - a) (hrd W B l (hrA.below (hW.mono (Nat.le_trans hB hzz)))) (Nat.le_trans hB (Nat.le_trans hzz hW.size)) (by omega)
  have HS : Hid (∀ W, Below WA.heap.size WA W → W.cell? ⟨w.heap.size, 0, none⟩ = some (.int .i64 a) ∧ W.cell? ⟨w.heap.size, 1, none⟩ = some (.int .i64 b)) := fun W hW =>
    ⟨(hX.below hW hX.lt).cell 0, (hX.below hW hX.lt).cell 1⟩
  have HH := Lib.hid hb
  obtain ⟨L', hL'⟩ : ∃ L', (l.drop a).take b = L' := ⟨_, rfl⟩
  have HL := Lib.hid hL'
  rw [hL'] at CL
  have hlL : Hid (L'.length = b) := by
    have := hr.bytes_len
    unfold Hid
    rw [← hL', List.length_take, List.length_drop]; omega
  clear hX hr hrA hrd hb hz hL'
  go_region_held3 (fun w' => w'.cell? ⟨w.heap.size, 0, none⟩ = some (.int .i64 a) ∧ w'.cell? ⟨w.heap.size, 1, none⟩ = some (.int .i64 b) ∧ Below WA.heap.size WA w')
    (first | exact ⟨(HS.out _ (Below.refl _ _)).1, (HS.out _ (Below.refl _ _)).2, Below.refl _ _⟩ | exact ⟨(HS.out _ (Below.drew (Below.refl _ _))).1, (HS.out _ (Below.drew (Below.refl _ _))).2, Below.drew (Below.refl _ _)⟩ | exact ⟨(HS.out _ hb4).1, (HS.out _ hb4).2, hb4⟩ | exact ⟨(HS.out _ hb2).1, (HS.out _ hb2).2, hb2⟩ | assumption)
    (first
      | (go_at_call 85; refine (EN.out _).mono ?_; rintro e w2 ⟨rfl, hb2'⟩; have hb2 : Below WA.heap.size WA w2 := bto0 (by with_reducible repeat (first | exact Below.refl _ _ | refine Below.drew ?_ | refine bdr ?_ _)) hb2')
      | (go_at_call 72; refine (CL.out _ (by with_reducible repeat (first | exact Below.refl _ _ | exact hb2 | refine Below.drew ?_ | refine bdr ?_ _))).mono ?_; rintro e w3 ⟨A3, c3, rfl, own3, hc3, hb3⟩; have own4 := own3.less (Nat.le_trans hzz hb2.size); have hb4 : Below WA.heap.size WA w3 := bto0 hb2 hb3))
  go_wp2
  go_ret
  rw [HL.out]
  exact ⟨A3, c3, rfl, own4, hc3, HH.out.trans (hb4.mono hzz)⟩
theorem get_no (k : Int) (hp : isPage l = false) (hr : Reads w B 1 A n (bL l)) (hB : B ≤ w.heap.size) (hn : n ≤ 1000000) (hc : n ≤ c) : Calls Try.prog 58 #[.slice A n c, .int .i64 k] w (RetB w (.tuple #[.slice none 0 0, .int .i64 2])) := by
  have P := Lib.hid (places_any A n c B l w hr hB hn hc)
  unfold RetPl at P
  rw [hp] at P
  clear hr hp
  go_enter Try.func58, Try.ntmps58
  go_wp2_with fail
  refine P.out.mono ?_
  rintro e w1 ⟨Ap, m, cp, rfl, hm, hrp, hcp, hb⟩
  clear hm
  go_wp2
  go_ret2
  exact ⟨rfl, hb⟩
theorem get_out (k : Int) (hp : isPage l = true) (hk : k < 0 ∨ (hdC l : Int) ≤ k) (hr : Reads w B 1 A n (bL l)) (hB : B ≤ w.heap.size) (hn : n ≤ 1000000) (hc : n ≤ c) : Calls Try.prog 58 #[.slice A n c, .int .i64 k] w (RetB w (.tuple #[.slice none 0 0, .int .i64 9])) := by
  have P := Lib.hid (places_any A n c B l w hr hB hn hc)
  unfold RetPl at P
  rw [hp] at P
  clear hr hp
  obtain ⟨C, hC⟩ : ∃ C, hdC l = C := ⟨_, rfl⟩
  rw [hC] at hk P
  clear hC
  by_cases h0 : k < 0
  · clear hk
    go_enter Try.func58, Try.ntmps58
    go_wp2_with fail
    refine P.out.mono ?_
    rintro e w1 ⟨Ap, m, cp, rfl, hm, hrp, hcp, hb⟩
    clear hm
    go_wp2
    go_ret2
    exact ⟨rfl, hb⟩
  · have h1 : (C : Int) ≤ k := by omega
    have h2 : (0 : Int) ≤ k := by omega
    clear hk
    go_enter Try.func58, Try.ntmps58
    go_wp2_with fail
    refine P.out.mono ?_
    rintro e w1 ⟨Ap, m, cp, rfl, hm, hrp, hcp, hb⟩
    obtain rfl : m = C := hm
    go_wp2
    go_ret2
    exact ⟨rfl, hb⟩
/-- What Get leaves of a record. -/
def RetGot (w : World) (l : List UInt8) (e : Ending) (w' : World) : Prop := ∃ A c, e = .returned (.tuple #[.slice A l.length c, .int .i64 0]) ∧ Own w' w.heap.size (.slice A l.length c) l ∧ l.length ≤ c ∧ Below w.heap.size w w'
theorem get_ok (k : Nat) (hp : isPage l = true) (hk : k < hdC l) (hr : Reads w B 1 A n (bL l)) (hB : B ≤ w.heap.size) (hn : n ≤ 1000000) (hc : n ≤ c) : Calls Try.prog 58 #[.slice A n c, .int .i64 k] w (RetGot w (recK l k)) := by
  obtain ⟨e1, e2, e3, e4, e5⟩ := page_end hp
  have hl := hr.bytes_len
  obtain ⟨f, _, f2, _, f4, _⟩ := endK_some e1 hk
  have P := Lib.hid (places_any A n c B l w hr hB hn hc)
  unfold RetPl at P
  rw [hp] at P
  have h0 : (0 : Int) ≤ (k : Int) := by omega
  have h1 : (k : Int) < (hdC l : Int) := by omega
  have REC := Lib.hid fun W (hW : Below w.heap.size w W) => record_any (two l (8 + 4 * k)) (two l (8 + 4 * k + 2)) (hr.below (hW.mono hB)) (Nat.le_trans hB hW.size) hn hc (by omega)
  have HK := Lib.hid hk
  obtain ⟨C, hC⟩ : ∃ C, hdC l = C := ⟨_, rfl⟩
  rw [hC] at P h1 HK
  clear hr hp hk e1 e2 e3 e4 e5 f2 f4 hC hl
  go_enter Try.func58, Try.ntmps58
  go_wp2_with fail
  refine P.out.mono ?_
  rintro e w1 ⟨Ap, m, cp, rfl, hm, hrp, hcp, hb⟩
  obtain rfl : m = C := hm
  obtain ⟨ad, rfl, hab, c0, c1⟩ := hrp.plc HK.out
  obtain ⟨a, ha⟩ : ∃ a, two l (8 + 4 * k) = a := ⟨_, rfl⟩
  obtain ⟨b, hb'⟩ : ∃ b, two l (8 + 4 * k + 2) = b := ⟨_, rfl⟩
  have HR : Hid (recK l k = (l.drop a).take b) := by unfold Hid recK; rw [ha, hb']
  rw [ha, hb'] at REC
  obtain ⟨L', hL'⟩ : ∃ L', (l.drop a).take b = L' := ⟨_, rfl⟩
  rw [hL'] at REC HR
  clear hL'
  rw [ha] at c0
  rw [hb'] at c1
  clear ha hb' hrp
  go_wp2_with fail
  refine (REC.out _ hb).mono ?_
  rintro e w3 ⟨A3, c3, rfl, own3, hc3, hb3⟩
  go_wp2
  go_ret2
  rw [HR.out]
  exact ⟨A3, c3, rfl, own3.less hb.size, hc3, bto0 hb hb3⟩
end
end Go.Proofs.Ytcpbkaeilmabaaa
