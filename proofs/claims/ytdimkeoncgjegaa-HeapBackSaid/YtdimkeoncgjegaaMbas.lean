/-
  Several texts in one: Se Sf.
-/
import Derived.Test.YtdimkeoncgjegaaMbai
import Derived.Test.YtdimkeoncgjegaaMbao
import Derived.Deep.RegionLaw
/-
  Slots of a heap page: a record, Get.
-/
namespace Go.Proofs.Ytdimkeoncgjegaa
section
open Go.RowKit

section
variable {w : World} {A : Option Addr} {n c B : Nat} {l : List UInt8}
set_option maxRecDepth 100000 in
theorem record_any (a b : Nat) (hr : Reads w B 1 A n (bL l)) (hB : B ≤ w.heap.size) (hn : n ≤ 1000000) (hc : n ≤ c) (hab : a + b ≤ n) : Calls Try.prog 60 #[.slice A n c, .agg #[.int .i64 a, .int .i64 b]] w (RetCl w ((l.drop a).take b)) := by
  have hX := Blk.new w 137 #[.int .i64 a, .int .i64 b]
  have hb := ball (Below.refl w.heap.size w) (.cells #[.int .i64 a, .int .i64 b] 137)
  have hz : (w.alloc (.cells #[.int .i64 a, .int .i64 b] 137)).heap.size = w.heap.size + 1 := by simp
  go_enter Try.func60, Try.ntmps60
  go_wp2_with fail
  obtain ⟨WA, hW⟩ : ∃ W, (w.alloc (.cells #[.int .i64 a, .int .i64 b] 137)) = W := ⟨_, rfl⟩
  rw [hW] at hX hb hz ⊢
  clear hW
  have hzz : w.heap.size ≤ WA.heap.size := by omega
  have hrA := hr.below (hb.mono hB)
  obtain ⟨A', sl, hrd⟩ := cutb_mid (A := A) (n := n) (c := c) .i64 .i64 a (a + b) (a : Int) ((a : Int) + (b : Int)) rfl (by omega) (by omega) hab hc
  rw [Nat.add_sub_cancel_left] at sl hrd
  have EN := Lib.hid (end_any a b (by omega) (by omega))
  have CL := Lib.hid fun W (hW : Below WA.heap.size WA W) => clone_any (c := c - a) (hrd W B l (hrA.below (hW.mono (Nat.le_trans hB hzz)))) (Nat.le_trans hB (Nat.le_trans hzz hW.size)) (by omega)
  have HS : Hid (∀ W, Below WA.heap.size WA W → W.cell? ⟨w.heap.size, 0, none⟩ = some (.int .i64 a) ∧ W.cell? ⟨w.heap.size, 1, none⟩ = some (.int .i64 b)) := fun W hW =>
    ⟨(hX.below hW hX.lt).cell 0, (hX.below hW hX.lt).cell 1⟩
  have HH := Lib.hid hb
  obtain ⟨L', hL'⟩ : ∃ L', (l.drop a).take b = L' := ⟨_, rfl⟩
  have HL := Lib.hid hL'
  rw [hL'] at CL
  have hlL : Hid (L'.length = b) := by
    have := hr.bytes_len
    unfold Hid
    rw [← hL', List.length_take, List.length_drop]; omega
  clear hX hr hrA hrd hb hz hL'
  go_region_held3 (fun w' => w'.cell? ⟨w.heap.size, 0, none⟩ = some (.int .i64 a) ∧ w'.cell? ⟨w.heap.size, 1, none⟩ = some (.int .i64 b) ∧ Below WA.heap.size WA w')
    (first | exact ⟨(HS.out _ (Below.refl _ _)).1, (HS.out _ (Below.refl _ _)).2, Below.refl _ _⟩ | exact ⟨(HS.out _ (Below.drew (Below.refl _ _))).1, (HS.out _ (Below.drew (Below.refl _ _))).2, Below.drew (Below.refl _ _)⟩ | exact ⟨(HS.out _ hb4).1, (HS.out _ hb4).2, hb4⟩ | exact ⟨(HS.out _ hb2).1, (HS.out _ hb2).2, hb2⟩ | assumption)
    (first
      | (go_at_call 63; refine (EN.out _).mono ?_; rintro e w2 ⟨rfl, hb2'⟩; have hb2 : Below WA.heap.size WA w2 := bto0 (by with_reducible repeat (first | exact Below.refl _ _ | refine Below.drew ?_ | refine bdr ?_ _)) hb2')
      | (go_at_call 45; refine (CL.out _ (by with_reducible repeat (first | exact Below.refl _ _ | exact hb2 | refine Below.drew ?_ | refine bdr ?_ _))).mono ?_; rintro e w3 ⟨A3, c3, rfl, own3, hc3, hb3⟩; have own4 := own3.less (Nat.le_trans hzz hb2.size); have hb4 : Below WA.heap.size WA w3 := bto0 hb2 hb3))
  go_wp2
  go_ret
  rw [HL.out]
  exact ⟨A3, c3, rfl, own4, hc3, HH.out.trans (hb4.mono hzz)⟩
theorem get_no (k : Int) (hp : isPage l = false) (hr : Reads w B 1 A n (bL l)) (hB : B ≤ w.heap.size) (hn : n ≤ 1000000) (hc : n ≤ c) : Calls Try.prog 38 #[.slice A n c, .int .i64 k] w (RetB w (.tuple #[.slice none 0 0, .int .i64 2])) := by
  have P := Lib.hid (places_any A n c B l w hr hB hn hc)
  unfold RetPl at P
  rw [hp] at P
  clear hr hp
  go_enter Try.func38, Try.ntmps38
  go_wp2_with fail
  refine P.out.mono ?_
  rintro e w1 ⟨Ap, m, cp, rfl, hm, hrp, hcp, hb⟩
  clear hm
  go_wp2
  go_ret2
  exact ⟨rfl, hb⟩
theorem get_out (k : Int) (hp : isPage l = true) (hk : k < 0 ∨ (hdC l : Int) ≤ k) (hr : Reads w B 1 A n (bL l)) (hB : B ≤ w.heap.size) (hn : n ≤ 1000000) (hc : n ≤ c) : Calls Try.prog 38 #[.slice A n c, .int .i64 k] w (RetB w (.tuple #[.slice none 0 0, .int .i64 9])) := by
  have P := Lib.hid (places_any A n c B l w hr hB hn hc)
  unfold RetPl at P
  rw [hp] at P
  clear hr hp
  obtain ⟨C, hC⟩ : ∃ C, hdC l = C := ⟨_, rfl⟩
  rw [hC] at hk P
  clear hC
  by_cases h0 : k < 0
  · clear hk
    go_enter Try.func38, Try.ntmps38
    go_wp2_with fail
    refine P.out.mono ?_
    rintro e w1 ⟨Ap, m, cp, rfl, hm, hrp, hcp, hb⟩
    clear hm
    go_wp2
    go_ret2
    exact ⟨rfl, hb⟩
  · have h1 : (C : Int) ≤ k := by omega
    have h2 : (0 : Int) ≤ k := by omega
    clear hk
    go_enter Try.func38, Try.ntmps38
    go_wp2_with fail
    refine P.out.mono ?_
    rintro e w1 ⟨Ap, m, cp, rfl, hm, hrp, hcp, hb⟩
    obtain rfl : m = C := hm
    go_wp2
    go_ret2
    exact ⟨rfl, hb⟩
/-- What Get leaves of a record. -/
def RetGot (w : World) (l : List UInt8) (e : Ending) (w' : World) : Prop := ∃ A c, e = .returned (.tuple #[.slice A l.length c, .int .i64 0]) ∧ Own w' w.heap.size (.slice A l.length c) l ∧ l.length ≤ c ∧ Below w.heap.size w w'
theorem get_ok (k : Nat) (hp : isPage l = true) (hk : k < hdC l) (hr : Reads w B 1 A n (bL l)) (hB : B ≤ w.heap.size) (hn : n ≤ 1000000) (hc : n ≤ c) : Calls Try.prog 38 #[.slice A n c, .int .i64 k] w (RetGot w (recK l k)) := by
  obtain ⟨e1, e2, e3, e4, e5⟩ := page_end hp
  have hl := hr.bytes_len
  obtain ⟨f, _, f2, _, f4, _⟩ := endK_some e1 hk
  have P := Lib.hid (places_any A n c B l w hr hB hn hc)
  unfold RetPl at P
  rw [hp] at P
  have h0 : (0 : Int) ≤ (k : Int) := by omega
  have h1 : (k : Int) < (hdC l : Int) := by omega
  have REC := Lib.hid fun W (hW : Below w.heap.size w W) => record_any (two l (8 + 4 * k)) (two l (8 + 4 * k + 2)) (hr.below (hW.mono hB)) (Nat.le_trans hB hW.size) hn hc (by omega)
  have HK := Lib.hid hk
  obtain ⟨C, hC⟩ : ∃ C, hdC l = C := ⟨_, rfl⟩
  rw [hC] at P h1 HK
  clear hr hp hk e1 e2 e3 e4 e5 f2 f4 hC hl
  go_enter Try.func38, Try.ntmps38
  go_wp2_with fail
  refine P.out.mono ?_
  rintro e w1 ⟨Ap, m, cp, rfl, hm, hrp, hcp, hb⟩
  obtain rfl : m = C := hm
  obtain ⟨ad, rfl, hab, c0, c1⟩ := hrp.plc HK.out
  obtain ⟨a, ha⟩ : ∃ a, two l (8 + 4 * k) = a := ⟨_, rfl⟩
  obtain ⟨b, hb'⟩ : ∃ b, two l (8 + 4 * k + 2) = b := ⟨_, rfl⟩
  have HR : Hid (recK l k = (l.drop a).take b) := by unfold Hid recK; rw [ha, hb']
  rw [ha, hb'] at REC
  obtain ⟨L', hL'⟩ : ∃ L', (l.drop a).take b = L' := ⟨_, rfl⟩
  rw [hL'] at REC HR
  clear hL'
  rw [ha] at c0
  rw [hb'] at c1
  clear ha hb' hrp
  go_wp2_with fail
  refine (REC.out _ hb).mono ?_
  rintro e w3 ⟨A3, c3, rfl, own3, hc3, hb3⟩
  go_wp2
  go_ret2
  rw [HR.out]
  exact ⟨A3, c3, rfl, own3.less hb.size, hc3, bto0 hb hb3⟩
end
end
end Go.Proofs.Ytdimkeoncgjegaa
/-
  Slots of a heap page: putTwo, Add, New, Link.
-/
namespace Go.Proofs.Ytdimkeoncgjegaa
section
open Go.RowKit

/-- Bytes, and what else the block holds behind them. -/
def bT (l : List UInt8) (tl : List Value) : Array Value := (bL l ++ tl).toArray
theorem bT_set (l : List UInt8) (tl : List Value) (i : Nat) (b : UInt8) (h : i < l.length) : (bT l tl).setIfInBounds i (.int .u8 (b.toNat : Int)) = bT (l.set i b) tl := by
  unfold bT
  rw [List.setIfInBounds_toArray, List.set_append_left _ _ (by rw [bL_len]; exact h)]
  simp [bL, List.map_set]
theorem bT_at (l : List UInt8) (tl : List Value) (i : Nat) (h : i < l.length) : ∃ b : UInt8, (bT l tl)[i]? = some (.int .u8 (b.toNat : Int)) := by
  refine ⟨l[i], ?_⟩
  unfold bT
  rw [List.getElem?_toArray, List.getElem?_append_left (by rw [bL_len]; exact h)]
  exact bL_at (List.getElem?_eq_getElem h)
theorem Own.open_ {w : World} {base : Nat} {A : Option Addr} {n c : Nat} {l : List UInt8} (h : Own w base (.slice A n c) l) (hn : 0 < n) : ∃ g tl, A = some ⟨g, 0, none⟩ ∧ base ≤ g ∧ Blk w g 5 (bT l tl) ∧ (bL l ++ tl).length = c ∧ c ≤ maxLen := by
  have hl := h.reads.2
  rcases h.2 with ⟨e, _⟩ | ⟨g, cap, cur, e, hb, hh, hnc, hcm, hcs, ht⟩
  · injection e with _ e2 _; omega
  · injection e with e1 e2 e3
    subst e3
    have hcur : cur.toList = bL l ++ cur.toList.drop l.length := by
      have := List.take_append_drop l.length cur.toList
      rw [Nat.mul_one] at ht
      rw [ht] at this
      exact this.symm
    have hc : cur = bT l (cur.toList.drop l.length) := by unfold bT; rw [← hcur]
    refine ⟨g, cur.toList.drop l.length, e1, hb, ?_, ?_, hcm⟩
    · unfold Blk; rw [← hc]; exact hh
    · rw [← hcur, Array.length_toList, hcs, Nat.mul_one]
theorem Own.shut {w : World} {base g n c : Nat} {l : List UInt8} {tl : List Value} (h : Blk w g 5 (bT l tl)) (hc : (bL l ++ tl).length = c) (hm : c ≤ maxLen) (hb : base ≤ g) (hn : n = l.length) : Own w base (.slice (some ⟨g, 0, none⟩) n c) l := by
  subst hn
  have hl : l.length ≤ c := by rw [← hc, List.length_append, bL_len]; omega
  refine ⟨by rw [bL_len]; omega, .inr ⟨g, c, bT l tl, rfl, hb, h, hl, hm, ?_, ?_⟩⟩
  · unfold bT; rw [List.size_toArray, hc, Nat.mul_one]
  · unfold bT
    rw [Nat.mul_one]
    exact List.take_left' (bL_len l)
theorem cut_row (g n c i : Nat) (k : IntKind) (x : Int) (hx : x = i) (hi : i ≤ n) (hic : i < c) (W : World) : (Instr.slice 59 (.slice (some ⟨g, 0, none⟩) n c) (some (.int k x)) none none).run Try.prog W = .ok (.slice (some ⟨g, i, none⟩) (n - i) (c - i)) W := by
  subst hx
  rw [run_slice_l W 59 (some ⟨g, 0, none⟩) n c Try.sliceB k (i : Int) (by omega) (by omega), Try.elemB, Try.sizeB]
  have e : (⟨g, 0, none⟩ : Addr).add i = ⟨g, i, none⟩ := add_head g i
  have hne : ¬ c = i := by omega
  simp [sliced, Result.andThen, e, hne]
theorem splice_bT (l r : List UInt8) (tl : List Value) (k : Nat) (h : k + r.length ≤ l.length) : (splice (bL l ++ tl) k (bL r)).toArray = bT (splice l k r) tl := by
  unfold bT splice
  rw [List.take_append_of_le_length (by rw [bL_len]; omega), List.drop_append_of_le_length (by rw [bL_len, bL_len]; exact h), bL_len]
  simp [bL, List.map_take, List.map_drop]
def RetPut (w : World) (g : Nat) (l : List UInt8) (tl : List Value) (e : Ending) (w' : World) : Prop := e = .returned (.tuple #[]) ∧ Blk w' g 5 (bT l tl) ∧ (∀ B w0, B ≤ g → Below B w0 w → Below B w0 w')
set_option maxRecDepth 100000 in
theorem put_two (g n c i v : Nat) (l : List UInt8) (tl : List Value) (w : World) (h : Blk w g 5 (bT l tl)) (hi : i + 1 < l.length) (hn : l.length = n) (hn6 : n ≤ 1000000) (hv : v < 65536) :
    Calls Try.prog 48 #[.slice (some ⟨g, 0, none⟩) n c, .int .i64 i, .int .i64 v] w (RetPut w g ((l.set i (UInt8.ofNat (v / 256))).set (i + 1) (UInt8.ofNat v)) tl) := by
  obtain ⟨b0, h0⟩ := bT_at l tl i (by omega)
  obtain ⟨b1, h1⟩ := bT_at l tl (i + 1) (by omega)
  have c0 := (h.cell i).trans h0
  have c1 := (h.cell (i + 1)).trans h1
  have f0 := h.frozen i
  have f1 := h.frozen (i + 1)
  have iI : (0 : Int) ≤ (i : Int) := by omega
  have i1 : (i : Int) < (n : Int) := by omega
  have i2 : (i : Int) + 1 < (n : Int) := by omega
  have i3 : (n : Int) ≤ 1000000 := by omega
  have v0 : (0 : Int) ≤ (v : Int) := by omega
  have v1 : (v : Int) < 65536 := by omega
  have HV : Hid ((v : Int) % 256 = ((UInt8.ofNat v).toNat : Int)) := by unfold Hid; rw [u8_nat]
  have HI := Lib.hid (And.intro hi h)
  clear h0 h1 hi hn h hv
  go_enter Try.func48, Try.ntmps48
  go_wp2_with fail
  refine bodyPost_ret (v := .tuple #[]) (by simp [results, Try.results48, go_sem]) rfl ?_
  have hs1 : (Value.int .u8 ((v : Int) / 256)) = .int .u8 ((UInt8.ofNat (v / 256)).toNat : Int) := val_int (by rw [u8_nat]; omega)
  have hs2 : (Value.int .u8 ((v : Int) % 256)) = .int .u8 ((UInt8.ofNat v).toNat : Int) := val_int HV.out
  rw [hs1, hs2]
  refine ⟨rfl, ?_, fun B w0 hB hb => (hb.setCell (by exact hB) _).setCell (by exact hB) _⟩
  have h2 := (HI.out.2.set_ i (.int .u8 ((UInt8.ofNat (v / 256)).toNat : Int))).set_ (i + 1) (.int .u8 ((UInt8.ofNat v).toNat : Int))
  rw [bT_set _ _ _ _ (by have := HI.out.1; omega), bT_set _ _ _ _ (by rw [List.length_set]; exact HI.out.1)] at h2
  exact h2
section
variable {w : World} {A A2 : Option Addr} {n c B n2 c2 B2 : Nat} {l r : List UInt8}
theorem add_no (hp : isPage l = false) (hr : Reads w B 1 A n (bL l)) (hB : B ≤ w.heap.size) (hn : n ≤ 1000000) (hc : n ≤ c) : Calls Try.prog 27 #[.slice A n c, .slice A2 n2 c2] w (RetB w (.tuple #[.slice none 0 0, .int .i64 0, .int .i64 2])) := by
  have P := Lib.hid (places_any A n c B l w hr hB hn hc)
  unfold RetPl at P
  rw [hp] at P
  clear hr hp
  go_enter Try.func27, Try.ntmps27
  go_wp2_with fail
  refine P.out.mono ?_
  rintro e w1 ⟨Ap, m, cp, rfl, hm, hrp, hcp, hb⟩
  clear hm
  go_wp2
  refine bodyPost_ret (v := .tuple #[.slice none 0 0, .int .i64 0, .int .i64 2]) (by simp [results, Try.results27, go_sem]) rfl ?_
  exact ⟨rfl, hb⟩
theorem add_arg (hp : isPage l = true) (hr : Reads w B 1 A n (bL l)) (hB : B ≤ w.heap.size) (hn : n ≤ 1000000) (hc : n ≤ c) : Calls Try.prog 27 #[.slice A n c, .slice A2 0 c2] w (RetB w (.tuple #[.slice none 0 0, .int .i64 0, .int .i64 1])) := by
  have P := Lib.hid (places_any A n c B l w hr hB hn hc)
  unfold RetPl at P
  rw [hp] at P
  clear hr hp
  go_enter Try.func27, Try.ntmps27
  go_wp2_with fail
  refine P.out.mono ?_
  rintro e w1 ⟨Ap, m, cp, rfl, hm, hrp, hcp, hb⟩
  clear hm
  go_wp2
  refine bodyPost_ret (v := .tuple #[.slice none 0 0, .int .i64 0, .int .i64 1]) (by simp [results, Try.results27, go_sem]) rfl ?_
  exact ⟨rfl, hb⟩
theorem add_full (hp : isPage l = true) (hr : Reads w B 1 A n (bL l)) (hB : B ≤ w.heap.size) (hn : n ≤ 1000000) (hc : n ≤ c) (h0 : 0 < n2) (hf : pE l - (12 + 4 * hdC l) < n2) : Calls Try.prog 27 #[.slice A n c, .slice A2 n2 c2] w (RetB w (.tuple #[.slice none 0 0, .int .i64 0, .int .i64 7])) := by
  have P := Lib.hid (places_any A n c B l w hr hB hn hc)
  have PE := Lib.hid (page_end hp)
  unfold RetPl at P
  rw [hp] at P
  obtain ⟨C, hC⟩ : ∃ C, hdC l = C := ⟨_, rfl⟩
  obtain ⟨E, hE⟩ : ∃ E, pE l = E := ⟨_, rfl⟩
  rw [hC, hE] at hf
  have HC := Lib.hid (And.intro hC hE)
  rw [hC] at P
  have e1 : ((n2 : Int) == 0) = false := by simp; omega
  have e2 : ((E - (12 + 4 * C) : Nat) : Int) < (n2 : Int) := by omega
  obtain ⟨R, hR⟩ : ∃ R, E - (12 + 4 * C) = R := ⟨_, rfl⟩
  have HR := Lib.hid hR
  rw [hR] at e2
  clear hr hp hC hE hf h0 hR
  go_enter Try.func27, Try.ntmps27
  go_wp2_with fail
  refine P.out.mono ?_
  rintro e w1 ⟨Ap, m, cp, rfl, hm, hrp, hcp, hb⟩
  obtain rfl : m = C := hm
  have RM : Hid (Calls Try.prog 43 #[.slice Ap m cp] w1 fun e' w' => e' = .returned (.int .i64 (R : Int)) ∧ w1 = w') := by
    have h := PE.out
    rw [HC.out.1, HC.out.2] at h
    have := room_any Ap m cp E hrp h.1 h.2.1 h.2.2.2.1
    rwa [HR.out] at this
  clear hrp
  go_wp2_with (go_at_call 43; refine RM.out.mono ?_; rintro e w' ⟨rfl, rfl⟩)
  refine bodyPost_ret (v := .tuple #[.slice none 0 0, .int .i64 0, .int .i64 7]) (by simp [results, Try.results27, go_sem]) rfl ?_
  exact ⟨rfl, hb⟩
def RetAdd (w : World) (C : Nat) (l : List UInt8) (e : Ending) (w' : World) : Prop := ∃ A c, e = .returned (.tuple #[.slice A 512 c, .int .i64 C, .int .i64 0]) ∧ Own w' w.heap.size (.slice A 512 c) l ∧ 512 ≤ c ∧ Below w.heap.size w w'
set_option maxRecDepth 100000 in
set_option maxHeartbeats 400000 in
theorem add_ok (hp : isPage l = true) (hr : Reads w B 1 A n (bL l)) (hB : B ≤ w.heap.size) (hn : n ≤ 1000000) (hc : n ≤ c) (hr2 : Reads w B2 1 A2 n2 (bL r)) (hB2 : B2 ≤ w.heap.size) (h0 : 0 < n2) (hf : n2 ≤ pE l - (12 + 4 * hdC l)) : Calls Try.prog 27 #[.slice A n c, .slice A2 n2 c2] w (RetAdd w (hdC l) (addL l r (hdC l) (pE l))) := by
  have P := Lib.hid (places_any A n c B l w hr hB hn hc)
  have PE := Lib.hid (page_end hp)
  unfold RetPl at P
  rw [hp] at P
  have hl2 := hr2.bytes_len
  have hl5 := (page_end hp).2.2.2.2
  have hE5 := (page_end hp).2.2.2.1
  obtain rfl : n = 512 := by have := hr.bytes_len; omega
  obtain ⟨C, hC⟩ : ∃ C, hdC l = C := ⟨_, rfl⟩
  obtain ⟨E, hE⟩ : ∃ E, pE l = E := ⟨_, rfl⟩
  rw [hC, hE] at hf ⊢
  rw [hE] at hE5
  have HC := Lib.hid (And.intro hC hE)
  rw [hC] at P
  obtain ⟨R, hR⟩ : ∃ R, E - (12 + 4 * C) = R := ⟨_, rfl⟩
  have HR := Lib.hid hR
  obtain ⟨b0, hb0⟩ : ∃ b0, E - n2 = b0 := ⟨_, rfl⟩
  have hEb : E = b0 + n2 := by omega
  have hb12 : 12 + 4 * C ≤ b0 := by omega
  have hbT : b0 + n2 ≤ 512 := by omega
  subst hEb
  have e1 : ((n2 : Int) == 0) = false := by simp; omega
  have e2 : (n2 : Int) ≤ (R : Int) := by omega
  have e3 : ((b0 + n2 : Nat) : Int) - (n2 : Int) = (b0 : Int) := by omega
  have CL := Lib.hid fun W (hW : Below w.heap.size w W) => clone_any (c := c) (hr.below (hW.mono hB)) (Nat.le_trans hB hW.size) (by omega)
  have HR2 := Lib.hid (And.intro hr2 (And.intro hB2 (And.intro hl2 (And.intro hl5 (And.intro hb12 hbT)))))
  have h0I : (0 : Int) < (n2 : Int) := by omega
  have bI : (b0 : Int) + (n2 : Int) ≤ 512 := by omega
  have b0I : (0 : Int) ≤ (b0 : Int) := by omega
  have CI : (C : Int) ≤ 126 := by have := (page_end hp).2.1; omega
  clear hr hr2 hp hC hE hf hR hb0 hl2 hl5 hE5
  go_enter Try.func27, Try.ntmps27
  go_wp2_with fail
  refine P.out.mono ?_
  rintro e w1 ⟨Ap, m, cp, rfl, hm, hrp, hcp, hb⟩
  obtain rfl : m = C := hm
  have RM : Hid (Calls Try.prog 43 #[.slice Ap m cp] w1 fun e' w' => e' = .returned (.int .i64 (R : Int)) ∧ w1 = w') := by
    have h := PE.out
    rw [HC.out.1, HC.out.2] at h
    have := room_any Ap m cp _ hrp h.1 h.2.1 h.2.2.2.1
    rwa [HR.out] at this
  have HRP := Lib.hid hrp
  clear hrp
  go_wp2_with (go_at_call 43; refine RM.out.mono ?_; rintro e w' ⟨rfl, rfl⟩)
  refine (CL.out _ hb).mono ?_
  rintro e w3 ⟨A3, c3, rfl, own3, hc3, hb3⟩
  have FR : Hid (Calls Try.prog 46 #[.slice Ap m cp] w3 fun e' w' => e' = .returned (.int .i64 ((b0 + n2 : Nat) : Int)) ∧ w3 = w') := by
    have h := PE.out
    rw [HC.out.1, HC.out.2] at h
    exact free_any Ap m cp _ ((HRP.out.below hb3).more hb3.size) h.1 h.2.1
  rw [HR2.out.2.2.2.1] at own3 hc3 ⊢
  obtain ⟨g, tl, rfl, hg, hblk, htl, hcm⟩ := own3.open_ (by omega)
  have hi8 : (Try.prog.info? 5).map (·.size) = some 1 := by
    obtain ⟨i0, hi0, _, hs0, _⟩ := int_info8 Try.infoB
    rw [hi0, Option.map_some, hs0]
  have HI := Lib.hid hi8
  have hbW := bto0 hb hb3
  have HCP : Hid (n2 = r.length ∧ l.length = 512 ∧ b0 + n2 ≤ 512 ∧ 12 + 4 * m ≤ b0 ∧ (bL l ++ tl).length = c3 ∧ c3 ≤ maxLen ∧ w.heap.size ≤ g) := ⟨HR2.out.2.2.1.symm, HR2.out.2.2.2.1, HR2.out.2.2.2.2.2, HR2.out.2.2.2.2.1, htl, hcm, Nat.le_trans hb.size hg⟩
  have HSRC : Hid (∀ W, Below w.heap.size w W → 0 < n2 → ∃ ad, A2 = some ad ∧ ∀ j v, (bL r)[j]? = some v → W.cell? (ad.add j) = some v) := by
    intro W hW hpos
    obtain ⟨ad, hA, _, hcl⟩ := (HR2.out.1.below (hW.mono HR2.out.2.1)).2 hpos
    exact ⟨ad, hA, hcl⟩
  have HB3 := Lib.hid (And.intro hblk hbW)
  have hgw : w.heap.size ≤ g := Nat.le_trans hb.size hg
  clear hblk hbW hi8 htl hcm
  go_wp2_with (first
    | (go_at_call 46; refine FR.out.mono ?_; rintro e w' ⟨rfl, rfl⟩)
    | (refine wpList_copy_splice rfl _ _ 59 59 rfl 5 Try.underlying59 HI.out (some ⟨g, b0, none⟩) A2 (512 - b0) (c3 - b0) n2 c2 rfl rfl g b0 (bL l ++ tl) 5 HB3.out.1 (bL r) (by rw [bL_len, ← HCP.out.1]; have := HCP.out.2.2.1; show n2 = min n2 (512 - b0); omega) (fun hq => ⟨rfl, HSRC.out _ HB3.out.2 (by rw [bL_len, ← HCP.out.1] at hq; exact hq)⟩) (by rw [bL_len, ← HCP.out.1, List.length_append, bL_len, HCP.out.2.1]; have := HCP.out.2.2.1; omega) (bL_one r) w.heap.size w HB3.out.2 hgw ?_; intro w4 hg4 hb4))
  have SA := Lib.hid slotAt_any
  have hblk4 : Blk w4 g 5 (bT (splice l b0 r) tl) := by
    have h := hg4.out
    rw [splice_bT l r tl b0 (by rw [HCP.out.2.1, ← HCP.out.1]; exact HCP.out.2.2.1)] at h
    exact h
  have hls : (splice l b0 r).length = 512 := by rw [length_splice l b0 r (by rw [HCP.out.2.1, ← HCP.out.1]; exact HCP.out.2.2.1)]; exact HCP.out.2.1
  obtain ⟨l1, hl1⟩ : ∃ l1, splice l b0 r = l1 := ⟨_, rfl⟩
  have HL1 := Lib.hid hl1
  rw [hl1] at hblk4 hls
  have P1 := Lib.hid (put_two g 512 c3 (8 + 4 * m) b0 l1 tl w4 hblk4 (by omega) hls (by omega) (by omega))
  rw [show ((8 + 4 * m : Nat) : Int) = 8 + (m : Int) * 4 from by omega] at P1
  clear hg4 hblk4 hl1 HB3 HSRC HI
  go_wp2_with (go_at_call 47; refine (SA.out m (by have := HCP.out.2.2.2.1; omega) _).mono ?_; rintro e w' ⟨rfl, rfl⟩)
  with_reducible refine P1.out.mono ?_
  rintro e w5 ⟨rfl, hblk5, hb5⟩
  have hbw5 := hb5 _ _ hgw hb4
  have hls2 : ((l1.set (8 + 4 * m) (UInt8.ofNat (b0 / 256))).set (8 + 4 * m + 1) (UInt8.ofNat b0)).length = 512 := by rw [List.length_set, List.length_set]; exact hls
  obtain ⟨l2, hl2⟩ : ∃ l2, (l1.set (8 + 4 * m) (UInt8.ofNat (b0 / 256))).set (8 + 4 * m + 1) (UInt8.ofNat b0) = l2 := ⟨_, rfl⟩
  have HL2 := Lib.hid hl2
  rw [hl2] at hblk5 hls2
  have P2 := Lib.hid (put_two g 512 c3 (8 + 4 * m + 2) n2 l2 tl w5 hblk5 (by omega) hls2 (by omega) (by omega))
  rw [show ((8 + 4 * m + 2 : Nat) : Int) = 8 + (m : Int) * 4 + 2 from by omega] at P2
  clear hblk5 hl2 P1
  go_wp2_with fail
  with_reducible refine P2.out.mono ?_
  rintro e w6 ⟨rfl, hblk6, hb6⟩
  have hbw6 := hb6 _ _ hgw hbw5
  have hls3 : ((l2.set (8 + 4 * m + 2) (UInt8.ofNat (n2 / 256))).set (8 + 4 * m + 2 + 1) (UInt8.ofNat n2)).length = 512 := by rw [List.length_set, List.length_set]; exact hls2
  obtain ⟨l3, hl3⟩ : ∃ l3, (l2.set (8 + 4 * m + 2) (UInt8.ofNat (n2 / 256))).set (8 + 4 * m + 2 + 1) (UInt8.ofNat n2) = l3 := ⟨_, rfl⟩
  have HL3 := Lib.hid hl3
  rw [hl3] at hblk6 hls3
  have P3 := Lib.hid (put_two g 512 c3 2 (m + 1) l3 tl w6 hblk6 (by omega) hls3 (by omega) (by omega))
  rw [show ((m + 1 : Nat) : Int) = (m : Int) + 1 from by omega, show ((2 : Nat) : Int) = 2 from rfl] at P3
  clear hblk6 hl3 P2
  go_wp2_with fail
  with_reducible refine P3.out.mono ?_
  rintro e w7 ⟨rfl, hblk7, hb7⟩
  have hbw7 := hb7 _ _ hgw hbw6
  have hfin : (l3.set 2 (UInt8.ofNat ((m + 1) / 256))).set (2 + 1) (UInt8.ofNat (m + 1)) = addL l r m (b0 + n2) := by
    rw [← HL3.out, ← HL2.out, ← HL1.out]
    unfold addL
    rw [← HCP.out.1, Nat.add_sub_cancel]
  rw [hfin] at hblk7
  have hls4 : (addL l r m (b0 + n2)).length = 512 := by rw [← hfin, List.length_set, List.length_set]; exact hls3
  have hcl : (bL (addL l r m (b0 + n2)) ++ tl).length = c3 := by
    have := HCP.out.2.2.2.2.1
    rw [List.length_append, bL_len] at this ⊢
    rw [hls4, ← HCP.out.2.1]; exact this
  have own7 := Own.shut (base := w.heap.size) (n := 512) hblk7 hcl HCP.out.2.2.2.2.2.1 hgw hls4.symm
  have HF := Lib.hid (And.intro own7 hbw7)
  clear hfin hcl own7 hbw7 hblk7 hls4 HL1 HL2 HL3 hb5 hb6 hb7 P3 hbw5 hbw6 hb4
  go_wp2
  go_ret3
  exact ⟨some ⟨g, 0, none⟩, c3, rfl, HF.out.1, hc3, HF.out.2⟩
end
end
end Go.Proofs.Ytdimkeoncgjegaa
